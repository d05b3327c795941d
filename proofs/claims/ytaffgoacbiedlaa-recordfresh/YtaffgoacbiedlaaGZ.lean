import Derived.Test.YtaffgoacbiedlaaA3
import Derived.Test.YtaffgoacbiedlaaCA
import Derived.Test.YtaffgoacbiedlaaCB
import Derived.Test.YtaffgoacbiedlaaBB
import Derived.Lib.ConvBytes
import Derived.Test.YtaffgoacbiedlaaY2
import Derived.Test.YtaffgoacbiedlaaX3
import Derived.Test.YtaffgoacbiedlaaT1
import Derived.Test.YtaffgoacbiedlaaA5
namespace Go.Proofs.Ytaffgoacbiedlaa.G
open Go.RowKit
set_option linter.unusedVariables false
set_option linter.unusedSimpArgs false

theorem cell_but {S : Nat → Prop} {w w' : World} {p : Addr} {v : Value} (hb : But S w w') (h : w.cell? p = some v) (hn : ¬ S p.block) : w'.cell? p = some v := by
  rw [World.cell?_of_block (hb.block p.block (World.block_lt_of_cell? _ _ h) hn)]; exact h
/-- What a list reads (one cell each). -/
structure Row (w : World) (a : Option Addr) (n cap : Nat) (L : List Value) : Prop where
  len : L.length = n
  cap_ : n ≤ cap
  none_ : a = none → n = 0 ∧ cap = 0
  cells : ∀ x, a = some x → ∀ j u, L[j]? = some u → w.cell? (x.add j) = some u
  one : ∀ u ∈ L, u.oneCell' = true
theorem Row.later {W w1 : World} {a : Option Addr} {n cap : Nat} {L : List Value} (hb : Below W.heap.size W w1) (h : Row W a n cap L) : Row w1 a n cap L :=
  ⟨h.len, h.cap_, h.none_, fun x hx j u hu => cell_later hb (h.cells x hx j u hu), h.one⟩
theorem Row.alloc {w : World} {a : Option Addr} {n cap : Nat} {L : List Value} (h : Row w a n cap L) (o : Obj) : Row (w.alloc o) a n cap L := h.later (below1 _ _)
theorem row_nil (w : World) : Row w none 0 0 [] := ⟨rfl, Nat.le_refl _, fun _ => ⟨rfl, rfl⟩, fun _ h => (by cases h), fun _ h => (by cases h)⟩
theorem add_block (x : Addr) (j : Nat) : (x.add j).block = x.block := by unfold Addr.add; split <;> rfl
theorem Row.but {S : Nat → Prop} {w w' : World} {a : Option Addr} {n cap : Nat} {L : List Value} (hb : But S w w') (h : Row w a n cap L) (hn : ∀ k, Blk a k → ¬ S k) : Row w' a n cap L :=
  ⟨h.len, h.cap_, h.none_, fun x hx j u hu => cell_but hb (h.cells x hx j u hu) (by rw [add_block]; exact hn _ ⟨x, hx, rfl⟩), h.one⟩
/-- Where there is an element the address is plain. -/
theorem Row.plain {w : World} {a : Option Addr} {n cap : Nat} {L : List Value} (h : Row w a n cap L) (hl : 0 < n) : ∃ b o, a = some ⟨b, o, none⟩ ∧ ∀ i v, L[i]? = some v → w.cell? ⟨b, o + i, none⟩ = some v := by
  cases a with
  | none => have := h.none_ rfl; omega
  | some x =>
    obtain ⟨b, o, spot⟩ := x
    have hlen := h.len
    have h0 := h.cells _ rfl 0 _ (List.getElem?_eq_getElem (by omega))
    have hs : spot = none := by simpa [Addr.add] using World.cell?_spot h0
    subst hs
    refine ⟨b, o, rfl, fun i v hi => ?_⟩
    have := h.cells _ rfl i _ hi
    rw [addr_add] at this
    exact this
theorem Row.at {w : World} {b o n cap : Nat} {L : List Value} (hl : L.length = n) (hc : n ≤ cap) (hs : ∀ x ∈ L, x.oneCell' = true) (h : ∀ i v, L[i]? = some v → w.cell? ⟨b, o + i, none⟩ = some v) : Row w (some ⟨b, o, none⟩) n cap L := by
  refine ⟨hl, hc, fun h => (by cases h), fun x hx j u hu => ?_, hs⟩
  cases hx
  rw [addr_add]
  exact h j u hu
/-- A list in memory of its own (from the block base on), with elements of type e. -/
structure Own (w : World) (base : Nat) (e : TypeId) (a : Option Addr) (n cap : Nat) (L : List Value) : Prop where
  row : w.ownsRow base e 1 (.slice a n cap) n L
  one : ∀ u ∈ L, u.oneCell' = true
theorem Own.len {w : World} {base : Nat} {e : TypeId} {a : Option Addr} {n cap : Nat} {L : List Value} (h : Own w base e a n cap L) : L.length = n := by
  have := h.row.1
  rw [Nat.mul_one] at this
  exact this
theorem Own.read {w : World} {base : Nat} {e : TypeId} {a : Option Addr} {n cap : Nat} {L : List Value} (h : Own w base e a n cap L) : Row w a n cap L := by
  refine ⟨h.len, ?_, ?_, ?_, h.one⟩
  · rcases h.row.2 with ⟨h, hn⟩ | ⟨g, c, cur, hv, _, _, hc, _⟩
    · omega
    · simp only [Value.slice.injEq] at hv; omega
  · intro ha
    rcases h.row.2 with ⟨h, hn⟩ | ⟨g, c, cur, hv, _, _, hc, _⟩
    · simp only [Value.slice.injEq] at h; omega
    · subst ha; simp at hv
  · intro x hx j u hu
    rcases h.row.2 with ⟨h, hn⟩ | ⟨g, c, cur, hv, _, _, hc, _⟩
    · subst hx; simp at h
    · subst hx
      simp only [Value.slice.injEq, Option.some.injEq] at hv
      obtain ⟨rfl, _, rfl⟩ := hv
      exact h.row.cells (g := g) rfl j u hu
theorem own_but {S : Nat → Prop} {W w1 : World} {base : Nat} {e : TypeId} {size : Nat} {v : Value} {n : Nat} {xs : List Value} (hb : But S W w1) (h : W.ownsRow base e size v n xs) (hn : ∀ k, v.ownBlock = some k → ¬ S k) : w1.ownsRow base e size v n xs := by
  refine ⟨h.1, ?_⟩
  rcases h.2 with h | ⟨g, cap, cur, hv, hg, hh, r⟩
  · exact .inl h
  · have hlt : g < W.heap.size := by
      rcases Nat.lt_or_ge g W.heap.size with h1 | h1
      · exact h1
      · rw [Array.getElem?_eq_none h1] at hh; cases hh
    exact .inr ⟨g, cap, cur, hv, hg, by rw [hb.block g hlt (hn g (by rw [hv]; simp [Value.ownBlock]))]; exact hh, r⟩
theorem own_block {w : World} {base : Nat} {e : TypeId} {size : Nat} {v : Value} {n : Nat} {xs : List Value} (h : w.ownsRow base e size v n xs) : ∀ k, v.ownBlock = some k → base ≤ k ∧ k < w.heap.size := by
  intro k hk
  rcases h.2 with ⟨rfl, _⟩ | ⟨g, cap, cur, rfl, hg, hh, _⟩
  · cases hk
  · simp [Value.ownBlock] at hk
    subst hk
    exact ⟨hg, (Array.getElem?_eq_some_iff.1 hh).1⟩
theorem Own.but {S : Nat → Prop} {W w1 : World} {base : Nat} {e : TypeId} {a : Option Addr} {n cap : Nat} {L : List Value} (hb : But S W w1) (h : Own W base e a n cap L) (hn : ∀ k, Blk a k → ¬ S k) : Own w1 base e a n cap L :=
  ⟨own_but hb h.row (fun k hk => hn k (Blk.of.1 hk)), h.one⟩
theorem Own.later {W w1 : World} {base : Nat} {e : TypeId} {a : Option Addr} {n cap : Nat} {L : List Value} (hb : Below W.heap.size W w1) (h : Own W base e a n cap L) : Own w1 base e a n cap L :=
  h.but (S := fun _ => False) (But.of hb) (fun _ _ h => h)
theorem Own.alloc {w : World} {base : Nat} {e : TypeId} {a : Option Addr} {n cap : Nat} {L : List Value} (h : Own w base e a n cap L) (o : Obj) : Own (w.alloc o) base e a n cap L := h.later (below1 _ _)
theorem Own.mono {w : World} {base b : Nat} {e : TypeId} {a : Option Addr} {n cap : Nat} {L : List Value} (h : Own w base e a n cap L) (hb : b ≤ base) : Own w b e a n cap L := ⟨own_mono h.row hb, h.one⟩
theorem Own.nil (w : World) (base : Nat) (e : TypeId) : Own w base e .none 0 0 [] := ⟨⟨rfl, .inl ⟨rfl, rfl⟩⟩, fun _ h => (by cases h)⟩
theorem Own.blk {w : World} {base : Nat} {e : TypeId} {a : Option Addr} {n cap : Nat} {L : List Value} (h : Own w base e a n cap L) : ∀ k, Blk a k → base ≤ k := fun k hk => (own_block h.row k (Blk.of.2 hk)).1
theorem Own.lt {w : World} {base : Nat} {e : TypeId} {a : Option Addr} {n cap : Nat} {L : List Value} (h : Own w base e a n cap L) : ∀ k, Blk a k → k < w.heap.size := fun k hk => (own_block h.row k (Blk.of.2 hk)).2
theorem append_gen (t e : TypeId) (z : Value) (by_ : Nat) (ht : Try.prog.underlying t = some (.slice e)) (hinf : (Try.prog.info? e).map (fun i => (i.zero, i.size, i.bytes)) = some (some z, 1, by_)) (hzs : z.cells.size = 1)
    {w : World} {base : Nat} {a : Option Addr} {n cap : Nat} {L : List Value} {b : Option Addr} {m c : Nat} {M : List Value} (h : Own w base e a n cap L) (k : Row w b m c M) (hb : base ≤ w.heap.size) (hr : (n + m) * by_ ≤ 140737488355328) (hr2 : n + m ≤ 140737488355328) :
    ∃ a' cap' w', (Builtin.append_ #[t, t] t #[.slice a n cap, .slice b m c]).run Try.prog w = .ok (.slice a' (n + m) cap') w' ∧ Own w' base e a' (n + m) cap' (L ++ M) ∧ Gr a a' w w' := by
  obtain ⟨i, hi, hz0, hz1, hz2⟩ := info_parts hinf
  have hsm : ∀ x ∈ L ++ M, x.oneCell' = true := fun x hx => by
    rcases List.mem_append.1 hx with h1 | h1
    · exact h.one x h1
    · exact k.one x h1
  cases b with
  | none =>
    obtain ⟨rfl, rfl⟩ := k.none_ rfl
    have hM : M = [] := List.eq_nil_of_length_eq_zero k.len
    subst hM
    have hr := run_append_owned_none (P := Try.prog) (w := w) base t t e i 1 ht hi _ n _ h.row
    exact ⟨a, cap, w, hr, ⟨by simpa using h.row, hsm⟩, Gr.refl _ _⟩
  | some x =>
    obtain ⟨v', w', hr, h2, h3, _, h5⟩ := run_append_own_at (P := Try.prog) w base t t e i _ 1 by_ ht hi hz0 hz1 hz2 hzs (by decide) _ n _ h.row x m c M (by rw [k.len, Nat.mul_one]) (k.cells x rfl) k.one (by unfold maxLen; omega) hr hb
    obtain ⟨a', cap', rfl⟩ : ∃ a' cap', v' = .slice a' (n + m) cap' := by
      rcases h2.2 with ⟨h, h'⟩ | ⟨g', cap', _, h, _⟩
      · exact ⟨.none, 0, by rw [h, h']⟩
      · exact ⟨_, cap', h⟩
    refine ⟨a', cap', w', hr, ⟨h2, hsm⟩, ⟨h3.os, h3.tape, h3.output, h3.size, fun j hj hn => h3.block j hj (fun e => hn (Blk.of.1 e.symm))⟩, fun j hj => ?_⟩
    rcases h5 with h5 | h5
    · rw [Blk.of.2 hj] at h5
      exact .inl (Blk.of.1 h5.symm)
    · rw [Blk.of.2 hj] at h5
      right
      simp at h5
      omega
/-- The one element that is appended. -/
theorem Row.single (w : World) (e : TypeId) (v : Value) (hv : v.oneCell' = true) : Row (w.alloc (Obj.cells #[v] e)) (some ⟨w.heap.size, 0, .none⟩) 1 1 [v] :=
  Row.at (L := [v]) rfl (Nat.le_refl _) (fun x hx => by simp at hx; subst hx; exact hv) (fun i u hu => by
    cases i with
    | zero => simp at hu; subst hu; simp [go_sem]
    | succ i => simp at hu)
structure Cr (w : World) (k : Nat) (b : Option Addr) (m c : Nat) (M : List Value) : Prop where
  len : M.length = m * k
  none_ : b = none → m = 0 ∧ c = 0
  cells : ∀ x, b = some x → ∀ j u, M[j]? = some u → w.cell? (x.add j) = some u
  one : ∀ u ∈ M, u.oneCell' = true
theorem append_k (t e : TypeId) (z : Value) (k by_ : Nat) (ht : Try.prog.underlying t = some (.slice e)) (hinf : (Try.prog.info? e).map (fun i => (i.zero, i.size, i.bytes)) = some (some z, k, by_)) (hzs : z.cells.size = k) (hk : 0 < k) (hby : 0 < by_)
    {w : World} {base : Nat} {a : Option Addr} {n cap : Nat} {L : List Value} {b : Option Addr} {m c : Nat} {M : List Value} (h : w.ownsRow base e k (.slice a n cap) n L) (r : Cr w k b m c M) (hb : base ≤ w.heap.size) (hr : (n + m) * by_ ≤ 140737488355328) :
    ∃ a' cap' w', (Builtin.append_ #[t, t] t #[.slice a n cap, .slice b m c]).run Try.prog w = .ok (.slice a' (n + m) cap') w' ∧ w'.ownsRow base e k (.slice a' (n + m) cap') (n + m) (L ++ M) ∧ Gr a a' w w' := by
  obtain ⟨i, hi, hz0, hz1, hz2⟩ := info_parts hinf
  have hnm : n + m ≤ 140737488355328 := Nat.le_trans (Nat.le_mul_of_pos_right _ hby) hr
  cases b with
  | none =>
    obtain ⟨rfl, rfl⟩ := r.none_ rfl
    have hM : M = [] := List.eq_nil_of_length_eq_zero (by have := r.len; omega)
    subst hM
    have hr := run_append_owned_none (P := Try.prog) (w := w) base t t e i k ht hi _ n _ h
    exact ⟨a, cap, w, hr, by simpa using h, Gr.refl _ _⟩
  | some x =>
    obtain ⟨v', w', hr, h2, h3, _, h5⟩ := run_append_own_at (P := Try.prog) w base t t e i _ k by_ ht hi hz0 hz1 hz2 hzs hk _ n _ h x m c M r.len (r.cells x rfl) r.one (by unfold maxLen; omega) hr hb
    obtain ⟨a', cap', rfl⟩ : ∃ a' cap', v' = .slice a' (n + m) cap' := by
      rcases h2.2 with ⟨h, h'⟩ | ⟨g', cap', _, h, _⟩
      · exact ⟨.none, 0, by rw [h, h']⟩
      · exact ⟨_, cap', h⟩
    refine ⟨a', cap', w', hr, h2, ⟨h3.os, h3.tape, h3.output, h3.size, fun j hj hn => h3.block j hj (fun e => hn (Blk.of.1 e.symm))⟩, fun j hj => ?_⟩
    rcases h5 with h5 | h5
    · rw [Blk.of.2 hj] at h5
      exact .inl (Blk.of.1 h5.symm)
    · rw [Blk.of.2 hj] at h5
      right
      simp at h5
      omega
/-- The one element of a literal. -/
theorem Cr.lit (w : World) (e : TypeId) (M : List Value) (h1 : ∀ u ∈ M, u.oneCell' = true) : Cr (w.alloc (Obj.cells M.toArray e)) M.length (some ⟨w.heap.size, 0, none⟩) 1 1 M :=
  ⟨by simp, fun h => (by cases h), fun x hx j u hu => by
    cases hx
    rw [addr_add0]
    simp only [World.cell?, World.alloc, Array.getElem?_push_size]
    simpa using hu, h1⟩
/-- A row of k cells an element, in memory of its own. -/
def Ow (w : World) (base : Nat) (e : TypeId) (k : Nat) (a : Option Addr) (n cap : Nat) (L : List Value) : Prop := w.ownsRow base e k (.slice a n cap) n L
theorem Ow.but {S : Nat → Prop} {w w' : World} {base : Nat} {e : TypeId} {k : Nat} {a : Option Addr} {n cap : Nat} {L : List Value} (h : Ow w base e k a n cap L) (hb : But S w w') (hn : ∀ j, Blk a j → ¬ S j) : Ow w' base e k a n cap L := own_but hb h (fun j hj => hn j (Blk.of.1 hj))
theorem Ow.later {w w' : World} {base : Nat} {e : TypeId} {k : Nat} {a : Option Addr} {n cap : Nat} {L : List Value} (h : Ow w base e k a n cap L) (hb : Below w.heap.size w w') : Ow w' base e k a n cap L := h.but (S := fun _ => False) (But.of hb) (fun _ _ h => h)
theorem Ow.mono {w : World} {base b : Nat} {e : TypeId} {k : Nat} {a : Option Addr} {n cap : Nat} {L : List Value} (h : Ow w base e k a n cap L) (hb : b ≤ base) : Ow w b e k a n cap L := own_mono h hb
theorem Ow.blk {w : World} {base : Nat} {e : TypeId} {k : Nat} {a : Option Addr} {n cap : Nat} {L : List Value} (h : Ow w base e k a n cap L) : ∀ j, Blk a j → base ≤ j ∧ j < w.heap.size := fun j hj => own_block h j (Blk.of.2 hj)
theorem Ow.nil (w : World) (base : Nat) (e : TypeId) (k : Nat) : Ow w base e k none 0 0 [] := ⟨by simp, .inl ⟨rfl, rfl⟩⟩
theorem Ow.at_ {w : World} {base : Nat} {e : TypeId} {k : Nat} {a : Option Addr} {n cap : Nat} {L : List Value} (h : Ow w base e k a n cap L) (hn : 0 < n) : ∃ b, a = some ⟨b, 0, none⟩ ∧ ∀ j u, L[j]? = some u → w.cell? ⟨b, j, none⟩ = some u := by
  rcases h.2 with ⟨_, h1⟩ | ⟨g, c, cur, hv, _⟩
  · omega
  · simp only [Value.slice.injEq] at hv
    refine ⟨g, hv.1, fun j u hu => ?_⟩
    have h' := h
    rw [Ow, hv.1] at h'
    have := World.ownsRow.cells (g := g) h' rfl j u hu
    rwa [addr_add0] at this
theorem Ow.form {w : World} {base : Nat} {e : TypeId} {k : Nat} {a : Option Addr} {n cap : Nat} {L : List Value} (h : Ow w base e k a n cap L) : (a = none ∧ n = 0 ∧ cap = 0) ∨ ∃ g, a = some ⟨g, 0, none⟩ ∧ (∀ j, w.frozen? ⟨g, j, none⟩ = false) ∧ n ≤ cap := by
  rcases h.2 with ⟨h1, h2⟩ | ⟨g, c, cur, hv, _, hh, hc, _⟩
  · simp only [Value.slice.injEq] at h1
    exact .inl ⟨h1.1, h2, h1.2.2⟩
  · simp only [Value.slice.injEq] at hv
    obtain ⟨rfl, _, rfl⟩ := hv
    exact .inr ⟨g, rfl, fun j => by simp [World.frozen?, hh], hc⟩
theorem Ow.cr {w : World} {base : Nat} {e : TypeId} {k : Nat} {a : Option Addr} {n cap : Nat} {L : List Value} (h : Ow w base e k a n cap L) (h1 : ∀ u ∈ L, u.oneCell' = true) : Cr w k a n cap L := by
  refine ⟨h.1, fun e => ?_, fun x hx j u hu => ?_, h1⟩
  · rcases h.form with ⟨_, h2⟩ | ⟨g, h2, _⟩
    · exact h2
    · rw [e] at h2; cases h2
  · rcases h.form with ⟨h2, _⟩ | ⟨g, h2, _⟩
    · rw [hx] at h2; cases h2
    · by_cases hn : 0 < n
      · obtain ⟨b, hb, hc⟩ := h.at_ hn
        rw [hb] at hx
        cases hx
        rw [addr_add0]
        exact hc j u hu
      · have hl := h.1
        have h0 : n = 0 := by omega
        rw [h0, Nat.zero_mul] at hl
        rw [List.eq_nil_of_length_eq_zero hl] at hu
        cases hu
theorem Ow.set1 {w : World} {base : Nat} {e : TypeId} {k g n cap : Nat} {L : List Value} (h : Ow w base e k (some ⟨g, 0, none⟩) n cap L) (j : Nat) (u : Value) : Ow (w.setCell ⟨g, j, none⟩ u) base e k (some ⟨g, 0, none⟩) n cap (L.set j u) := (World.ownsRow.stored h j u).1
/-- An empty literal. -/
theorem Ow.empty (w : World) (e : TypeId) (k : Nat) : Ow (w.alloc (Obj.cells #[] e)) w.heap.size e k (some ⟨w.heap.size, 0, none⟩) 0 0 [] :=
  ⟨by simp, .inr ⟨w.heap.size, 0, #[], rfl, Nat.le_refl _, heap_alloc_new w _, Nat.le_refl _, Nat.zero_le _, by simp, by simp⟩⟩
/-- What a list reads, cell by cell. -/
def Rv (w : World) (a : Option Addr) (L : List Value) : Prop := ∀ g, a = some ⟨g, 0, none⟩ → ∀ j u, L[j]? = some u → w.cell? ⟨g, j, none⟩ = some u
theorem Rv.but {S : Nat → Prop} {w w' : World} {a : Option Addr} {L : List Value} (h : Rv w a L) (hb : But S w w') (hn : ∀ j, Blk a j → ¬ S j) : Rv w' a L := fun g e j u hu => cell_but hb (h g e j u hu) (hn g ⟨_, e, rfl⟩)
theorem Rv.later {w w' : World} {a : Option Addr} {L : List Value} (h : Rv w a L) (hb : Below w.heap.size w w') : Rv w' a L := h.but (S := fun _ => False) (But.of hb) (fun _ _ h => h)
theorem Ow.rv {w : World} {base : Nat} {e : TypeId} {k : Nat} {a : Option Addr} {n cap : Nat} {L : List Value} (h : Ow w base e k a n cap L) : Rv w a L := fun g e j u hu => by
  by_cases hn : 0 < n
  · obtain ⟨b, hb, hc⟩ := h.at_ hn
    rw [hb] at e
    cases e
    exact hc j u hu
  · have hl := h.1
    have h0 : n = 0 := by omega
    rw [h0, Nat.zero_mul] at hl
    rw [List.eq_nil_of_length_eq_zero hl] at hu
    cases hu
theorem Rv.pre {w : World} {a : Option Addr} {L T : List Value} (h : Rv w a (L ++ T)) : Rv w a L := fun g e j u hu => h g e j u (by rw [List.getElem?_append_left (List.getElem?_eq_some_iff.1 hu).1]; exact hu)
set_option maxRecDepth 10000 in
theorem append_keep (t e : TypeId) (z : Value) (k by_ : Nat) (ht : Try.prog.underlying t = some (.slice e)) (hinf : (Try.prog.info? e).map (fun i => (i.zero, i.size, i.bytes)) = some (some z, k, by_)) (hzs : z.cells.size = k) (hk : 0 < k) (hby : 0 < by_)
    {w : World} {base : Nat} {a : Option Addr} {n cap : Nat} {L : List Value} {x : Addr} {m c : Nat} {M : List Value} (h : Ow w base e k a n cap L) (r : Cr w k (some x) m c M) (hm : 0 < m) (hb : base ≤ w.heap.size) (hr : (n + m) * by_ ≤ 140737488355328) :
    ∃ a' cap' w', (Builtin.append_ #[t, t] t #[.slice a n cap, .slice (some x) m c]).run Try.prog w = .ok (.slice a' (n + m) cap') w' ∧ Ow w' base e k a' (n + m) cap' (L ++ M) ∧ Gr a a' w w' ∧ ((a' = a ∧ cap' = cap) ∨ (Below w.heap.size w w' ∧ ∀ j, Blk a' j → w.heap.size ≤ j)) := by
  have hnm : n + m ≤ 140737488355328 := Nat.le_trans (Nat.le_mul_of_pos_right _ hby) hr
  rcases h.form with ⟨rfl, rfl, rfl⟩ | ⟨g, rfl, _, hnc⟩
  · obtain ⟨a', cap', w', hrun, hO, hG⟩ := append_k t e z k by_ ht hinf hzs hk hby h r hb hr
    refine ⟨a', cap', w', hrun, hO, hG, .inr ⟨⟨hG.but.os, hG.but.tape, hG.but.output, hG.but.size, fun j hj => hG.but.block j hj (fun e => by obtain ⟨_, e, _⟩ := e; cases e)⟩, fun j hj => ?_⟩⟩
    rcases hG.on j hj with e | e
    · obtain ⟨_, e, _⟩ := e; cases e
    · exact e
  · obtain ⟨i, hi, hz0, hz1, hz2⟩ := info_parts hinf
    by_cases hfit : n + m ≤ cap
    · obtain ⟨w', hrun, hO, hg⟩ := run_append_fits (P := Try.prog) w base t t e i k ht hi hz1 g n cap _ h x m c M r.len (r.cells x rfl) r.one hfit
      exact ⟨_, cap, w', hrun, hO, ⟨⟨hg.os, hg.tape, hg.output, hg.size, fun j hj hn => hg.block j hj (fun e => hn ⟨_, rfl, by simpa using e.symm⟩)⟩, fun j hj => .inl hj⟩, .inl ⟨rfl, rfl⟩⟩
    · have hl : L.length = n * k := h.1
      have hlm := r.len
      have hrun := run_append_grow (P := Try.prog) w t t e i _ ht hi hz0 ⟨g, 0, none⟩ n cap L (by rw [hz1]; exact hl) (fun j u hu => by rw [addr_add0]; exact h.rv g rfl j u hu) x m c M (by rw [hz1]; exact hlm) (r.cells x rfl) (by omega) (by omega) (growslice_fits (by omega) (by rw [hz2]; omega))
      have hB : Below w.heap.size w (w.drew.alloc (.cells (L.toArray ++ M.toArray ++ Builtin.zeroCells z.cells (grownCap w (n + m) cap e - (n + m))) e)) := ((Below.refl _ _).drew).alloc (by simp) _
      have hge : ∀ j, Blk (some ⟨w.heap.size, 0, none⟩) j → w.heap.size ≤ j := fun j hj => by
        obtain ⟨y, ey, rfl⟩ := hj
        cases ey
        exact Nat.le_refl _
      have hgc := grownCap_ge w (n + m) cap e
      refine ⟨_, _, _, hrun, ⟨by rw [List.length_append, hl, hlm, Nat.add_mul], .inr ⟨w.heap.size, _, _, rfl, hb, heap_alloc_new w.drew _, hgc, grownCap_le_maxLen _ _ _ _ (by unfold maxLen; omega), ?_, ?_⟩⟩, ⟨But.of hB, fun j hj => .inr (hge j hj)⟩, .inr ⟨hB, hge⟩⟩
      · simp only [Array.size_append, List.size_toArray, size_zeroCells, hl, hlm, hzs]
        rw [← Nat.add_mul, ← Nat.add_mul, Nat.add_sub_of_le hgc]
      · rw [Array.toList_append, Array.toList_append]
        exact List.take_left' (by simp [hl, hlm, Nat.add_mul])
/-- A list that is lengthened, and what it was. -/
structure Lz (w0 w : World) (base : Nat) (e : TypeId) (k : Nat) (a0 : Option Addr) (c0 : Nat) (L0 : List Value) (b : Option Addr) (c n : Nat) (L : List Value) : Prop where
  ow : Ow w base e k b n c L
  sh : (b = a0 ∧ c = c0) ∨ ∀ j, Blk b j → w0.heap.size ≤ j
  rv : Rv w a0 L0
  pre : ∃ T, L = L0 ++ T
  gr : Gr a0 b w0 w
  lt : ∀ j, Blk a0 j → j < w0.heap.size
theorem Lz.start {w : World} {base : Nat} {e : TypeId} {k : Nat} {a : Option Addr} {c n : Nat} {L : List Value} (h : Ow w base e k a n c L) : Lz w w base e k a c L a c n L :=
  ⟨h, .inl ⟨rfl, rfl⟩, h.rv, ⟨[], by simp⟩, Gr.refl _ _, fun j hj => (h.blk j hj).2⟩
theorem Lz.app (t e : TypeId) (z : Value) (k by_ : Nat) (ht : Try.prog.underlying t = some (.slice e)) (hinf : (Try.prog.info? e).map (fun i => (i.zero, i.size, i.bytes)) = some (some z, k, by_)) (hzs : z.cells.size = k) (hk : 0 < k) (hby : 0 < by_)
    {w0 w w1 : World} {base : Nat} {a0 : Option Addr} {c0 : Nat} {L0 : List Value} {b : Option Addr} {c n : Nat} {L : List Value} (h : Lz w0 w base e k a0 c0 L0 b c n L) (hl : Below w.heap.size w w1) {x : Addr} {m d : Nat} {M : List Value} (r : Cr w1 k (some x) m d M) (hm : 0 < m) (hb : base ≤ w.heap.size) (hr : (n + m) * by_ ≤ 140737488355328) :
    ∃ a' cap' w', (Builtin.append_ #[t, t] t #[.slice b n c, .slice (some x) m d]).run Try.prog w1 = .ok (.slice a' (n + m) cap') w' ∧ Lz w0 w' base e k a0 c0 L0 a' cap' (n + m) (L ++ M) := by
  obtain ⟨a', cap', w', hrun, hO, hG, hs⟩ := append_keep t e z k by_ ht hinf hzs hk hby (h.ow.later hl) r hm (Nat.le_trans hb hl.size) hr
  have hG2 := hG.pre hl
  have hsz := h.gr.but.size
  obtain ⟨T, hT⟩ := h.pre
  refine ⟨a', cap', w', hrun, hO, ?_, ?_, ⟨T ++ M, by rw [hT, List.append_assoc]⟩, h.gr.trans hG2, h.lt⟩
  · rcases hs with ⟨rfl, rfl⟩ | ⟨_, hge⟩
    · exact h.sh
    · exact .inr (fun j hj => Nat.le_trans hsz (Nat.le_trans hl.size (hge j hj)))
  · rcases hs with ⟨rfl, rfl⟩ | ⟨hB, _⟩
    · rcases h.sh with ⟨rfl, _⟩ | hge
      · have := hO.rv
        rw [hT, List.append_assoc] at this
        exact this.pre
      · exact h.rv.but hG2.but (fun j hj hj2 => by have := h.lt j hj; have := hge j hj2; omega)
    · exact (h.rv.later hl).later hB
end Go.Proofs.Ytaffgoacbiedlaa.G
namespace Go.Proofs.Ytaffgoacbiedlaa
open Go.RowKit
set_option linter.unusedVariables false
set_option linter.unusedSimpArgs false

theorem strB_size (l : List Nat) : (strB l).size = l.length := by simp [strB, ByteArray.size]
theorem strB_app (l m : List Nat) : strB (l ++ m) = strB l ++ strB m := by
  apply ByteArray.ext
  simp [strB]
theorem Lies.keep1 {w : World} {p q : Addr} {u v : Value} (h : Lies w p v) (hn : q ≠ p) : Lies (w.setCell q u) p v :=
  ⟨by rw [World.cell?_setCell_other _ _ _ _ hn]; exact h.1, by rw [World.frozen?_setCell]; exact h.2⟩
theorem lies_row1 {w : World} {g : Nat} {cur : Array Value} {t : TypeId} {fz : Nat × Nat} (hg : w.heap[g]? = some (.cells cur t fz)) (i : Nat) (v : Value) (h : cur[i]? = some v) (hf : ¬ (fz.1 ≤ i ∧ i < fz.2)) : Lies w ⟨g, i, none⟩ v := by
  refine ⟨by simp [World.cell?, hg, h], ?_⟩
  obtain ⟨lo, hi⟩ := fz
  simp only [World.frozen?, hg, Bool.and_eq_false_iff, decide_eq_false_iff_not]
  simp only at hf
  omega
theorem below_bytes1 (W : World) (s : ByteArray) : Below W.heap.size W (Lib.bytesWorld W 5 s) :=
  ⟨rfl, rfl, rfl, by rw [Lib.bytesWorld_size]; omega, fun k hk => Lib.bytesWorld_at_old W 5 s k hk⟩
theorem str_get (L : List Nat) (hs : ∀ x ∈ L, x < 256) (i : Nat) (hi : i < L.length) : ((strB L).data.toList.getD i 0).toNat = L[i] := by
  have := hs L[i] (List.getElem_mem hi)
  simp [strB, List.getD, hi]
  omega
/-- A string's bytes as a new list. -/
theorem conv_back (L : List Nat) (hs : ∀ x ∈ L, x < 256) (W : World) : ∃ cE wE, (convert 9 28 (.string (strB L))).run Try.prog W = .ok (.slice (some ⟨W.heap.size, 0, none⟩) L.length cE) wE ∧ Row wE (some ⟨W.heap.size, 0, none⟩) L.length cE L ∧ (∀ i, i < cE → ∃ v, Lies wE ⟨W.heap.size, i, none⟩ v) ∧ Below W.heap.size W wE := by
  have hr := Lib.run_convert_string_bytes (P := Try.prog) W 9 28 5 (strB L) Try.underlying9 Try.underlying28 Try.underlying5
  have hz := strB_size L
  have hg := Lib.bytesWorld_at_new W 5 (strB L)
  have hge := grownCap_ge W L.length 0 5
  have hsz : (Lib.bytesCells W 5 (strB L)).size = grownCap W L.length 0 5 := by
    unfold Lib.bytesCells
    rw [hz]
    simp only [Array.size_append, Array.size_map, Array.size_replicate]
    have : (strB L).data.size = L.length := hz
    omega
  rw [hz] at hr
  refine ⟨_, _, hr, Row.at rfl hge hs (fun i hi => ?_), fun i hi => ?_, below_bytes1 _ _⟩
  · rw [Nat.zero_add, Lib.bytesWorld_cell W 5 (strB L) i (by omega), str_get L hs i hi]
  · rw [hsz] at hg
    exact ⟨_, lies_row1 hg i _ (Array.getElem?_eq_getElem (by omega)) (by simp only; omega)⟩
theorem store3 (w : World) (g o : Nat) (x y z : Int) (h0 : ∃ v, Lies w ⟨g, o, none⟩ v) (h1 : ∃ v, Lies w ⟨g, o + 1, none⟩ v) (h2 : ∃ v, Lies w ⟨g, o + 2, none⟩ v) :
    (storeCells ⟨g, o, none⟩ [.int .u8 x, .int .u8 y, .int .u8 z] 0).run Try.prog w = .ok () (((w.setCell ⟨g, o, none⟩ (.int .u8 x)).setCell ⟨g, o + 1, none⟩ (.int .u8 y)).setCell ⟨g, o + 2, none⟩ (.int .u8 z)) := by
  obtain ⟨v0, h0⟩ := h0
  obtain ⟨v1, h1⟩ := h1
  obtain ⟨v2, h2⟩ := h2
  have k1 := h1.keep1 (q := ⟨g, o, none⟩) (u := .int .u8 x) (by simp)
  have k2 := (h2.keep1 (q := ⟨g, o, none⟩) (u := .int .u8 x) (by simp)).keep1 (q := ⟨g, o + 1, none⟩) (u := .int .u8 y) (by simp)
  simp only [storeCells, addr_add, Nat.add_zero, Nat.zero_add, Sem.run_bind]
  rw [run_store _ _ _ _ _ rfl, h0.1]
  simp only [h0.2, Bool.false_eq_true, if_false, Result.andThen_ok]
  rw [run_store _ _ _ _ _ rfl, k1.1]
  simp only [k1.2, Bool.false_eq_true, if_false, Result.andThen_ok]
  rw [show (1 : Nat) + 1 = 2 from rfl, run_store _ _ _ _ _ rfl, k2.1]
  simp only [k2.2, Bool.false_eq_true, if_false, Result.andThen_ok]
  rfl
theorem Row.three (w : World) : Row (w.alloc (Obj.cells #[.int .u8 11, .int .u8 12, .int .u8 13] 5)) (some ⟨w.heap.size, 0, none⟩) 3 3 [11, 12, 13] :=
  Row.at rfl (Nat.le_refl _) (by simp) (fun i hi => by
    rcases (show i = 0 ∨ i = 1 ∨ i = 2 by simp at hi; omega) with rfl | rfl | rfl <;> simp [go_sem])
set_option maxRecDepth 10000 in
/-- .. and three bytes behind them. -/
theorem wide_any (L : List Nat) (hs : ∀ x ∈ L, x < 256) (hL : L.length ≤ 100000) (W : World) : ∃ cE wE a' c' wF, (convert 9 28 (.string (strB L))).run Try.prog W = .ok (.slice (some ⟨W.heap.size, 0, none⟩) L.length cE) wE ∧
    (Builtin.append_ #[28, 28] 28 #[.slice (some ⟨W.heap.size, 0, none⟩) L.length cE, .slice (some ⟨wE.heap.size, 0, none⟩) 3 3]).run Try.prog (wE.alloc (Obj.cells #[.int .u8 11, .int .u8 12, .int .u8 13] 5)) = .ok (.slice a' (L.length + 3) c') wF ∧ Row wF a' (L.length + 3) c' (L ++ [11, 12, 13]) ∧ (∀ j, Blk a' j → W.heap.size ≤ j) ∧ Below W.heap.size W wF := by
  obtain ⟨cE, wE, h1, h2, h3, h4⟩ := conv_back L hs W
  have hc := h2.cap_
  have hb := below1 wE (Obj.cells #[.int .u8 11, .int .u8 12, .int .u8 13] 5)
  have hR := Row.three wE
  have h2' := h2.later hb
  have h3' : ∀ i, i < cE → ∃ v, Lies (wE.alloc (Obj.cells #[.int .u8 11, .int .u8 12, .int .u8 13] 5)) ⟨W.heap.size, i, none⟩ v := fun i hi => by obtain ⟨v, hv⟩ := h3 i hi; exact ⟨v, hv.alloc _⟩
  have h4' := below_call h4 hb
  have hs3 : ∀ x ∈ L ++ [11, 12, 13], x < 256 := fun x hx => by
    rcases List.mem_append.1 hx with h | h
    · exact hs x h
    · simp at h; omega
  obtain ⟨i, hi, hz0, hz1, hz2⟩ := info_parts info5
  generalize hwx : wE.alloc (Obj.cells #[.int .u8 11, .int .u8 12, .int .u8 13] 5) = wx at *
  by_cases hroom : L.length + 3 ≤ cE
  · have hst := store3 wx W.heap.size L.length 11 12 13 (h3' _ (by omega)) (h3' _ (by omega)) (h3' _ (by omega))
    have hf := run_firstCells_some (P := Try.prog) wx i.size 3 ⟨wE.heap.size, 0, none⟩ 3 3 (u8s [11, 12, 13]) (by rw [hz1]; rfl) (hR.cells _ rfl)
    refine ⟨cE, wE, some ⟨W.heap.size, 0, none⟩, cE, _, h1, ?_, ?_, fun j hj => by obtain ⟨x, hx, rfl⟩ := hj; cases hx; exact Nat.le_refl _, ((h4'.setCell (p := ⟨W.heap.size, L.length, none⟩) (Nat.le_refl _) (.int .u8 11)).setCell (p := ⟨W.heap.size, L.length + 1, none⟩) (Nat.le_refl _) (.int .u8 12)).setCell (p := ⟨W.heap.size, L.length + 2, none⟩) (Nat.le_refl _) (.int .u8 13)⟩
    · rw [hwx]
      rw [hz1] at hf
      simp [Builtin.append_, run_underlying Try.underlying28, sizeOf, typeInfo, hi, Builtin.lenOf, hroom, hf, addr_add0, hz1, u8s, hst]
      try rfl
    · obtain ⟨v0, e0⟩ := h3' L.length (by omega)
      obtain ⟨v1, e1⟩ := h3' (L.length + 1) (by omega)
      obtain ⟨v2, e2⟩ := h3' (L.length + 2) (by omega)
      refine Row.at (by simp) hroom hs3 (fun t ht => ?_)
      rw [Nat.zero_add]
      rcases Nat.lt_or_ge t L.length with h5 | h5
      · rw [List.getElem_append_left h5]
        obtain ⟨v, hv⟩ := h3' t (by omega)
        have hv2 : wx.cell? ⟨W.heap.size, t, none⟩ = some (.int .u8 ((L[t] : Nat) : Int)) := by
          have := h2'.cells _ rfl t _ (u8s_get L t h5)
          rwa [addr_add0] at this
        exact ((((show Lies wx ⟨W.heap.size, t, none⟩ _ from ⟨hv2, hv.2⟩).keep1 (fun e => by have := congrArg Addr.off e; simp at this; omega)).keep1 (fun e => by have := congrArg Addr.off e; simp at this; omega)).keep1 (fun e => by have := congrArg Addr.off e; simp at this; omega)).1
      · simp at ht
        rw [List.getElem_append_right h5]
        rcases (show t = L.length ∨ t = L.length + 1 ∨ t = L.length + 2 by omega) with rfl | rfl | rfl
        · simpa using ((e0.put (u := .int .u8 11)).keep1 (q := ⟨W.heap.size, L.length + 1, none⟩) (u := .int .u8 12) (by simp)).keep1 (q := ⟨W.heap.size, L.length + 2, none⟩) (u := .int .u8 13) (by simp) |>.1
        · simpa using (((e1.keep1 (q := ⟨W.heap.size, L.length, none⟩) (u := .int .u8 11) (by simp)).put (u := .int .u8 12)).keep1 (q := ⟨W.heap.size, L.length + 2, none⟩) (u := .int .u8 13) (by simp)).1
        · simpa using (((e2.keep1 (q := ⟨W.heap.size, L.length, none⟩) (u := .int .u8 11) (by simp)).keep1 (q := ⟨W.heap.size, L.length + 1, none⟩) (u := .int .u8 12) (by simp)).put (u := .int .u8 13)).1
  · have hr := run_append_grow (P := Try.prog) wx 28 28 5 i (.int .u8 0) Try.underlying28 hi hz0 ⟨W.heap.size, 0, none⟩ L.length cE (u8s L) (by rw [hz1, u8s_length, Nat.mul_one]) (h2'.cells _ rfl) ⟨wE.heap.size, 0, none⟩ 3 3 (u8s [11, 12, 13]) (by rw [hz1]; rfl) (hR.cells _ rfl) (by omega) (by omega) (growslice_fits (by omega) (by rw [hz2]; omega))
    have hh := heap_alloc_new wx.drew (.cells ((u8s L).toArray ++ (u8s [11, 12, 13]).toArray ++ Builtin.zeroCells (Value.cells (.int .u8 0)) (grownCap wx (L.length + 3) cE 5 - (L.length + 3))) 5)
    refine ⟨cE, wE, _, _, _, h1, by rw [hwx]; exact hr, Row.at (by simp) (grownCap_ge _ _ _ _) hs3 (fun t ht => ?_), fun j hj => by obtain ⟨x, hx, rfl⟩ := hj; cases hx; exact h4'.size, h4'.drew.alloc h4'.size _⟩
    rw [Nat.zero_add]
    refine (lies_row1 hh t _ ?_ (by simp)).1
    have hget : (u8s L ++ u8s [11, 12, 13])[t]? = some (.int .u8 (((L ++ [11, 12, 13])[t] : Nat) : Int)) := by rw [← u8s_append]; exact u8s_get _ t ht
    rw [Array.getElem?_append_left (by simp [u8s_length] at ht ⊢; omega)]
    simpa using hget
end Go.Proofs.Ytaffgoacbiedlaa
namespace Go.Proofs.Ytaffgoacbiedlaa.G.B
open Go.RowKit Go.Proofs.Ytaffgoacbiedlaa.G
set_option linter.unusedVariables false
set_option linter.unusedSimpArgs false

/-- The mark of list k. -/
def mrk (k : Nat) : Value := .int .u8 ((k : Int) + 1)
theorem infoE : (Try.prog.info? 5).map (fun i => (i.zero, i.size, i.bytes)) = some (some (.int .u8 0), 1, 1) := by kernel_rfl
theorem infoS : (Try.prog.info? 28).map (fun i => (i.zero, i.size, i.bytes)) = some (some (.slice none 0 0), 1, 24) := by kernel_rfl
theorem rep_snoc (k n : Nat) : List.replicate n (mrk k) ++ [mrk k] = List.replicate (n + 1) (mrk k) := by rw [← List.replicate_succ']
/-- Four lists, and the list of them. -/
structure Mk (w : World) (bl : Nat) (q : Nat → Option Addr) (cp : Nat → Nat) (ln : Nat → Nat) (K : Nat → List Value) : Prop where
  c : ∀ k, k < 7 → w.cell? ⟨bl, k, none⟩ = some (.slice (q k) (ln k) (cp k))
  ow : ∀ k, k < 7 → Ow w 0 5 1 (q k) (ln k) (cp k) (K k)
  len : ∀ k, k < 7 → (K k).length = ln k
  ne : ∀ a b j, a < 7 → b < 7 → a ≠ b → Blk (q a) j → ¬ Blk (q b) j
  nb : ∀ k, k < 7 → ¬ Blk (q k) bl
  small : ∀ k, ln k ≤ 100000
def Qb (q : Nat → Option Addr) (j : Nat) : Prop := ∃ k, k < 7 ∧ Blk (q k) j
theorem Qb.of {q : Nat → Option Addr} {k j : Nat} (h : k < 7) (hj : Blk (q k) j) : Qb q j := ⟨k, h, hj⟩
theorem apart2 {q : Nat → Option Addr} (h : ∀ a b j, a < 7 → b < 7 → a ≠ b → Blk (q a) j → ¬ Blk (q b) j) {a b j : Nat} (ha : a < 7) (hb : b < 7) (hne : a ≠ b) (h1 : Blk (q a) j) : ¬ Blk (q b) j := h a b j ha hb hne h1
/-- One element of list k is written. -/
theorem Mk.set {w : World} {bl : Nat} {q : Nat → Option Addr} {cp : Nat → Nat} {ln : Nat → Nat} {K : Nat → List Value} (h : Mk w bl q cp ln K) {k i g : Nat} (hk : k < 7) (hg : q k = some ⟨g, 0, none⟩) (c : Value) : Mk (w.setCell ⟨g, i, none⟩ c) bl q cp ln (fun j => if j = k then (K k).set i c else K j) ∧ But (Qb q) w (w.setCell ⟨g, i, none⟩ c) := by
  have hgb : Blk (q k) g := ⟨_, hg, rfl⟩
  have hb : But (· = g) w (w.setCell ⟨g, i, none⟩ c) := But.setCell (S := (· = g)) (But.refl _ _) (p := ⟨g, i, none⟩) (by rfl) _
  refine ⟨⟨fun j hj => cell_but hb (h.c j hj) (fun e => h.nb k hk (by show Blk (q k) bl; rw [show bl = g from e]; exact hgb)), fun j hj => ?_, fun j hj => ?_, h.ne, h.nb, h.small⟩, hb.mono (fun j e => Qb.of hk (by rw [show j = g from e]; exact hgb))⟩
  · by_cases e : j = k
    · subst e
      rw [if_pos rfl]
      have := h.ow j hj
      rw [hg] at this ⊢
      exact this.set1 i c
    · rw [if_neg e]
      refine (h.ow j hj).but hb (fun m hm e2 => ?_)
      exact apart2 h.ne hj hk e hm (by rw [show m = g from e2]; exact hgb)
  · by_cases e : j = k
    · subst e
      rw [if_pos rfl, List.length_set]
      exact h.len j hj
    · rw [if_neg e]
      exact h.len j hj
/-- Those ahead of k are full of their marks. -/
def Full (ln : Nat → Nat) (k : Nat) (K : Nat → List Value) : Prop := ∀ j, j < k → j < 7 → K j = List.replicate (ln j) (mrk j)
def W1Rel (w : World) (bl : Nat) (q : Nat → Option Addr) (cp : Nat → Nat) (ln : Nat → Nat) (t : Value) (w' : World) : Prop :=
  ∃ (k : Nat) (K : Nat → List Value), k ≤ 7 ∧ t = .int .i64 (k : Int) ∧ Mk w' bl q cp ln K ∧ Full ln k K ∧ But (Qb q) w w'
def W2Rel (w : World) (bl : Nat) (q : Nat → Option Addr) (cp : Nat → Nat) (ln : Nat → Nat) (k : Nat) (t : Value) (w' : World) : Prop :=
  ∃ (i : Nat) (K : Nat → List Value), i ≤ ln k ∧ t = .int .i64 (i : Int) ∧ Mk w' bl q cp ln K ∧ Full ln k K ∧ (∀ j, j < i → (K k)[j]? = some (mrk k)) ∧ But (Qb q) w w'
def W4Rel (wc : World) (a : Option Addr) (c0 n k : Nat) (s t : Value) (w' : World) : Prop :=
  ∃ (i : Nat) (b : Option Addr) (c : Nat), i ≤ 40 ∧ t = .int .i64 (i : Int) ∧ s = .slice b (n + i) c ∧ Lz wc w' 0 5 1 a c0 ((List.replicate n (mrk k))) b c (n + i) ((List.replicate (n + i) (mrk k)))
/-- The lists so far. -/
structure W3 (wb : World) (q : Nat → Option Addr) (cp : Nat → Nat) (ln : Nat → Nat) (k : Nat) (a : Option Addr) (cap : Nat) (L : List Value) (w : World) : Prop where
  ow : Own w wb.heap.size 28 a k cap L
  bb : But (Qb q) wb w
  rv : ∀ j, j < 7 → Rv w (q j) ((List.replicate (ln j) (mrk j)))
  fu : ∀ j, k ≤ j → j < 7 → Ow w 0 5 1 (q j) (ln j) (cp j) ((List.replicate (ln j) (mrk j)))
  el : ∀ j v, L[j]? = some v → ∃ b c, v = .slice b (ln j + 40) c ∧ Rv w b (List.replicate (ln j + 40) (mrk j)) ∧ (∃ g, b = some ⟨g, 0, none⟩) ∧ ∀ i, Blk b i → ¬ Blk a i ∧ i < w.heap.size ∧ (Blk (q j) i ∨ wb.heap.size ≤ i)
def W3Rel (wb : World) (q : Nat → Option Addr) (cp : Nat → Nat) (ln : Nat → Nat) (s t : Value) (w' : World) : Prop :=
  ∃ (k : Nat) (a : Option Addr) (cap : Nat) (L : List Value), k ≤ 7 ∧ t = .int .i64 (k : Int) ∧ s = .slice a k cap ∧ W3 wb q cp ln k a cap L w'
def W6Rel (w : World) (n : Nat) (t : Value) (w' : World) : Prop := ∃ i : Nat, i ≤ n + 40 ∧ t = .int .i64 (i : Int) ∧ w' = w
def W5Rel (w : World) (t : Value) (w' : World) : Prop := ∃ k : Nat, k ≤ 7 ∧ t = .int .i64 (k : Int) ∧ w' = w
/-- A list is lengthened and put in with the others. -/
theorem W3.next {wb wc we : World} {q : Nat → Option Addr} {cp : Nat → Nat} {ln : Nat → Nat} {k : Nat} {a : Option Addr} {cap : Nat} {L : List Value} (h : W3 wb q cp ln k a cap L wc) (hk : k < 7) (ne : ∀ a b j, a < 7 → b < 7 → a ≠ b → Blk (q a) j → ¬ Blk (q b) j) (hq : ∀ j, j < 7 → ∀ i, Blk (q j) i → i < wb.heap.size) (hn : ln k ≤ 100000) {b : Option Addr} {c : Nat}
    (hz : Lz wc we 0 5 1 (q k) (cp k) ((List.replicate (ln k) (mrk k))) b c (ln k + 40) ((List.replicate (ln k + 40) (mrk k)))) :
    ∃ a6 cap6 w6, (Builtin.append_ #[49, 49] 49 #[.slice a k cap, .slice (some ⟨we.heap.size, 0, none⟩) 1 1]).run Try.prog (we.alloc (Obj.cells #[.slice b (ln k + 40) c] 28)) = .ok (.slice a6 (k + 1) cap6) w6 ∧ W3 wb q cp ln (k + 1) a6 cap6 (L ++ [.slice b (ln k + 40) c]) w6 := by
  have hbx := below1 we (Obj.cells #[.slice b (ln k + 40) c] 28)
  have hsc := h.bb.size
  have hse := hz.gr.but.size
  have hab : ∀ i, Blk a i → wb.heap.size ≤ i ∧ i < wc.heap.size := fun i hi => ⟨h.ow.blk i hi, h.ow.lt i hi⟩
  have hqk : ∀ i, Blk (q k) i → i < wb.heap.size := hq k hk
  have hOb := (h.ow.but hz.gr.but (fun i hi hi2 => by have := hab i hi; have := hqk i hi2; omega)).later hbx
  obtain ⟨a6, cap6, w6, hr6, ho6, hg6⟩ := append_gen 49 28 _ 24 Try.underlying49 infoS rfl hOb (Row.single we 28 (.slice b (ln k + 40) c) rfl) (Nat.le_trans hsc (Nat.le_trans hse hbx.size)) (by omega) (by omega)
  have hs6 := hg6.but.size
  have hsx := hbx.size
  have hbl : ∀ i, Blk b i → (Blk (q k) i ∨ wc.heap.size ≤ i) ∧ i < we.heap.size := fun i hi => ⟨hz.gr.on i hi, (hz.ow.blk i hi).2⟩
  refine ⟨a6, cap6, w6, hr6, ho6, ?_, fun j hj => ?_, fun j hj hj2 => ?_, fun j v hv => ?_⟩
  · exact (((h.bb.trans (hz.gr.but.mono (fun i hi => Qb.of hk hi))).call hbx)).comp hg6.but (fun i hi => .inr (hab i hi).1)
  · have h1 : Rv we (q j) ((List.replicate (ln j) (mrk j))) := by
      by_cases e : j = k
      · subst e; exact hz.rv
      · exact (h.rv j hj).but hz.gr.but (fun i hi => apart2 ne hj hk e hi)
    exact (h1.later hbx).but hg6.but (fun i hi hi2 => by have := hab i hi2; have := hq j hj i hi; omega)
  · have h1 := (h.fu j (by omega) hj2).but hz.gr.but (fun i hi => apart2 ne hj2 hk (by omega) hi)
    exact (h1.later hbx).but hg6.but (fun i hi hi2 => by have := hab i hi2; have := hq j hj2 i hi; omega)
  · have hL := h.ow.len
    rcases Nat.lt_or_ge j k with h3 | h3
    · rw [List.getElem?_append_left (by omega)] at hv
      obtain ⟨b', c', e, hrd, hgg, hnb⟩ := h.el j v hv
      have hrd1 := hrd.but hz.gr.but (fun i hi hi2 => by
        rcases (hnb i hi).2.2 with h4 | h4
        · exact apart2 ne (by omega) hk (by omega) h4 hi2
        · have := hqk i hi2; omega)
      refine ⟨b', c', e, (hrd1.later hbx).but hg6.but (fun i hi => (hnb i hi).1), hgg, fun i hi => ⟨fun hi2 => ?_, by have := (hnb i hi).2.1; omega, (hnb i hi).2.2⟩⟩
      rcases hg6.on i hi2 with h4 | h4
      · exact (hnb i hi).1 h4
      · have := (hnb i hi).2.1; omega
    · have hj : j = k := by
        have := (List.getElem?_eq_some_iff.1 hv).1
        simp at this
        omega
      subst hj
      rw [List.getElem?_append_right (by omega)] at hv
      have e0 : j - L.length = 0 := by omega
      rw [e0] at hv
      simp at hv
      subst hv
      have hgb : ∃ g, b = some ⟨g, 0, none⟩ := by
        rcases hz.ow.form with ⟨_, h0, _⟩ | ⟨g, hg, _⟩
        · omega
        · exact ⟨g, hg⟩
      have hna : ∀ i, Blk b i → ¬ Blk a i := fun i hi hi2 => by
        have h5 := hab i hi2
        rcases (hbl i hi).1 with h4 | h4
        · have := hqk i h4; omega
        · omega
      refine ⟨b, c, rfl, (hz.ow.rv.later hbx).but hg6.but hna, hgb, fun i hi => ⟨fun hi2 => ?_, by have := (hbl i hi).2; omega, ?_⟩⟩
      · rcases hg6.on i hi2 with h4 | h4
        · exact hna i hi h4
        · have := (hbl i hi).2; omega
      · rcases (hbl i hi).1 with h4 | h4
        · exact .inl h4
        · exact .inr (by omega)
set_option maxRecDepth 100000 in
set_option maxHeartbeats 20000000 in
theorem mark_any {w : World} {bl : Nat} {q : Nat → Option Addr} {cp : Nat → Nat} {ln : Nat → Nat} {K0 : Nat → List Value} (cl : Nat) (h : Mk w bl q cp ln K0) :
    Calls Try.prog 18 #[.slice (some ⟨bl, 0, none⟩) 7 cl] w fun e w' => e = .returned (.bool true) ∧ But (Qb q) w w' := by
  have HH := hid h
  have hsm := h.small
  clear h
  go_enter Try.func18, Try.ntmps18
  go_upto_region 2 with fail
  go_loopw [3] (W1Rel w bl q cp ln) (fun t _ => 7 - (intOf t).toNat)
  case atStart => exact ⟨0, K0, by omega, rfl, HH.out, fun j hj => absurd hj (Nat.not_lt_zero _), But.refl _ _⟩
  case round =>
    obtain ⟨k, K, hk, rfl, hM, hF, hB⟩ := hrel
    have HM := hid hM
    have HF := hid hF
    have HB := hid hB
    clear hM hF hB
    by_cases hk2 : k < 7
    · go_upto_region 5 with fail
      go_loopw [4] (W2Rel w bl q cp ln k) (fun t _ => ln k - (intOf t).toNat)
      case atStart => exact ⟨0, K, Nat.zero_le _, rfl, HM.out, HF.out, fun j hj => absurd hj (Nat.not_lt_zero _), HB.out⟩
      case round =>
        obtain ⟨i, K2, hi, rfl, hM2, hF2, hm2, hB2⟩ := hrel
        have x0 := hM2.c k hk2
        have HM2 := hid hM2
        have HF2 := hid hF2
        have HM3 := hid hm2
        have HB2 := hid hB2
        clear hF2 hm2 hB2
        by_cases hlt : i < ln k
        · have hOw := hM2.ow k hk2
          have hl := hM2.len k hk2
          obtain ⟨c, hc⟩ : ∃ c, (K2 k)[i]? = some c := ⟨_, List.getElem?_eq_getElem (by omega)⟩
          rcases hOw.form with ⟨_, h0, _⟩ | ⟨g, hg, hfr, hnc⟩
          · omega
          have c0 := hOw.rv g hg i c hc
          have hfg := hfr i
          have HST := hid (hM2.set (i := i) hk2 hg (mrk k))
          unfold mrk at HST
          rw [hg] at x0
          have hwr : IntKind.i64.wrap ((k : Int) + 1) = (k : Int) + 1 := by (rw [IntKind.wrap_i64]; omega)
          have hwu : IntKind.u8.wrap ((k : Int) + 1) = (k : Int) + 1 := by (rw [IntKind.wrap_u8]; omega)
          generalize cp k = cpk at *
          have hsk := hsm k
          generalize hnk : ln k = n at *
          have HNK := hid hnk
          clear hM2 hOw hc hg hnk hfr
          go_wp2
          refine ⟨⟨i + 1, _, by have := HNK.out; omega, by go_num, HST.out.1, fun j hj hj2 => ?_, fun j hj => ?_, HB2.out.trans HST.out.2⟩, by simp [intOf]; omega⟩
          · have e : ¬ j = k := by omega
            simp only [if_neg e]
            exact HF2.out j hj hj2
          · simp only [if_true]
            rw [List.getElem?_set]
            by_cases e : i = j
            · subst e
              rw [if_pos rfl, if_pos (by omega)]
              rfl
            · rw [if_neg e]
              exact HM3.out j (by omega)
        · have hfu : Full ln (k + 1) K2 := fun j hj hj2 => by
            rcases Nat.lt_or_ge j k with h3 | h3
            · exact HF2.out j h3 hj2
            · obtain rfl : j = k := by omega
              apply List.ext_getElem?
              intro m
              have hl := HM2.out.len j hk2
              rcases Nat.lt_or_ge m (ln j) with h4 | h4
              · rw [HM3.out m (by omega), List.getElem?_replicate, if_pos h4]
              · rw [List.getElem?_eq_none (by omega), List.getElem?_eq_none (by simp; omega)]
          have HFU := hid hfu
          generalize q k = qk at x0
          generalize cp k = cpk at x0
          have hsk := hsm k
          generalize hnk : ln k = n at x0 hi hlt hsk ⊢
          have HNK := hid hnk
          clear hM2 hfu hnk
          go_wp2
          exact ⟨⟨k + 1, K2, by omega, by go_num, HM2.out, HFU.out, HB2.out⟩, by simp [intOf]; omega⟩
    · obtain rfl : k = 7 := by omega
      have HW0 : Hid (W3 wr q cp ln 0 none 0 [] wr) := ⟨Own.nil _ _ _, But.refl _ _, fun j hj => by have := (HM.out.ow j hj).rv; rwa [HF.out j hj hj] at this, fun j _ hj => by have := HM.out.ow j hj; rwa [HF.out j hj hj] at this, fun j v hv => by cases hv⟩
      have HQ : Hid (∀ j, j < 7 → ∀ i, Blk (q j) i → i < wr.heap.size) := fun j hj i hi => ((HM.out.ow j hj).blk i hi).2
      go_upto_region 10 with fail
      obtain ⟨wb, hwb⟩ : ∃ wb, wb = wr := ⟨_, rfl⟩
      rw [← hwb] at HM HB HW0 HQ ⊢
      clear hwb
      simp only [Int.cast_ofNat_Int]
      go_loopw [5, 6] (W3Rel wb q cp ln) (fun _ t _ => 7 - (intOf t).toNat)
      case atStart => exact ⟨0, none, 0, [], by omega, rfl, rfl, HW0.out⟩
      case round =>
        obtain ⟨k, a, cap, L, hk, rfl, rfl, hW⟩ := hrel
        have HW := hid hW
        by_cases hk2 : k < 7
        · have x0 := cell_but hW.bb (HM.out.c k hk2) (fun e => by obtain ⟨z, hz, e⟩ := e; exact HM.out.nb z hz e)
          have hwr : IntKind.i64.wrap ((k : Int) + 1) = (k : Int) + 1 := by (rw [IntKind.wrap_i64]; omega)
          have hwu : IntKind.u8.wrap ((k : Int) + 1) = (k : Int) + 1 := by (rw [IntKind.wrap_u8]; omega)
          have hkd : decide ((k : Int) < 7) = true := decide_eq_true (by omega)
          have HLZ := hid (Lz.start (hW.fu k (Nat.le_refl _) hk2))
          have HNX : Hid (∀ (we : World) (b : Option Addr) (c : Nat), Lz wr we 0 5 1 (q k) (cp k) ((List.replicate (ln k) (mrk k))) b c (ln k + 40) ((List.replicate (ln k + 40) (mrk k))) → ∃ a6 cap6 w6, (Builtin.append_ #[49, 49] 49 #[.slice a k cap, .slice (some ⟨we.heap.size, 0, none⟩) 1 1]).run Try.prog (we.alloc (Obj.cells #[.slice b (ln k + 40) c] 28)) = .ok (.slice a6 (k + 1) cap6) w6 ∧ W3 wb q cp ln (k + 1) a6 cap6 (L ++ [.slice b (ln k + 40) c]) w6) := fun we b c hz => HW.out.next hk2 HM.out.ne HQ.out (hsm k) hz
          clear hW
          generalize q k = qk at *
          generalize cp k = cpk at *
          have hsk := hsm k
          generalize ln k = n at *
          go_upto_region 14 with fail
          clear hkd
          obtain ⟨wc, hwc⟩ : ∃ wc, wc = wr := ⟨_, rfl⟩
          rw [← hwc] at HW HLZ HNX x0 ⊢
          clear hwc x0
          go_loopw [7, 8] (W4Rel wc qk cpk n k) (fun _ t _ => 40 - (intOf t).toNat)
          case atStart => exact ⟨0, _, _, by omega, rfl, rfl, HLZ.out⟩
          case round =>
            obtain ⟨i, b4, c4, hi, rfl, rfl, hz⟩ := hrel
            by_cases hi4 : i < 40
            · have hbx := below1 wr (Obj.cells #[.int .u8 ((k : Int) + 1)] 5)
              have hcx : Cr (wr.alloc (Obj.cells #[.int .u8 ((k : Int) + 1)] 5)) 1 (some ⟨wr.heap.size, 0, none⟩) 1 1 [mrk k] := Cr.lit wr 5 [mrk k] (fun u hu => by simp at hu; subst hu; rfl)
              obtain ⟨a5, cap5, w5, hr5, hz5⟩ := Lz.app 28 5 _ 1 1 Try.underlying28 infoE rfl (by omega) (by omega) hz hbx hcx (by omega) (Nat.zero_le _) (by omega)
              rw [rep_snoc] at hz5
              have HR5 := hid hr5
              have HZ5 := hid hz5
              clear hr5 hz5 hbx hcx hz
              go_wp2_with (first | (at_builtin; refine wpList_append_known rfl _ _ 28 rfl _ _ rfl rfl _ w5 HR5.out ?_))
              exact ⟨⟨i + 1, a5, cap5, by omega, by go_num, by rw [Nat.add_assoc], HZ5.out⟩, by simp [intOf]; omega⟩
            · obtain rfl : i = 40 := by omega
              obtain ⟨a6, cap6, w6, hr6, hW6⟩ := HNX.out wr b4 c4 hz
              have HR6 := hid hr6
              have HW6 := hid hW6
              clear hr6 hW6 hz
              go_wp2_with (first | (at_builtin; refine wpList_append_known rfl _ _ 49 rfl _ _ rfl rfl _ w6 HR6.out ?_))
              exact ⟨⟨k + 1, a6, cap6, _, by omega, by go_num, rfl, HW6.out⟩, by simp [intOf]; omega⟩
        · obtain rfl : k = 7 := by omega
          have HRw := hid hW.ow.read
          clear hW
          go_upto_region 19 with fail
          obtain ⟨wd, hwd⟩ : ∃ wd, wd = wr := ⟨_, rfl⟩
          rw [← hwd] at HRw HW ⊢
          clear hwd
          simp only [Int.cast_ofNat_Int]
          have HMd : Hid (∀ k, k < 7 → wd.cell? ⟨bl, k, none⟩ = some (.slice (q k) (ln k) (cp k))) := fun k hk => cell_but HW.out.bb (HM.out.c k hk) (fun e => by obtain ⟨z, hz, e⟩ := e; exact HM.out.nb z hz e)
          go_loopw [9] (W5Rel wd) (fun t _ => 7 - (intOf t).toNat)
          case atStart => exact ⟨0, by omega, rfl, rfl⟩
          case round =>
            obtain ⟨k, hk, rfl, rfl⟩ := hrel
            by_cases hk2 : k < 7
            · have hwr : IntKind.i64.wrap ((k : Int) + 1) = (k : Int) + 1 := by (rw [IntKind.wrap_i64]; omega)
              have hwu : IntKind.u8.wrap ((k : Int) + 1) = (k : Int) + 1 := by (rw [IntKind.wrap_u8]; omega)
              obtain ⟨v, hv⟩ : ∃ v, L[k]? = some v := ⟨_, List.getElem?_eq_getElem (by rw [HRw.out.len]; exact hk2)⟩
              obtain ⟨bx, cx, rfl, hrd, ⟨bb, rfl⟩, _⟩ := HW.out.el k v hv
              obtain ⟨ba, oa, rfl, hcl⟩ := HRw.out.plain (by omega)
              have xl := hcl k _ hv
              have HCEL := hid (hrd bb rfl)
              have xa := HMd.out k hk2
              have HRV := hid (HW.out.rv k hk2)
              have HOF := hid ((HM.out.ow k hk2).form)
              clear hv hrd hcl
              generalize q k = qk at *
              generalize cp k = cpk at *
              have hsk := hsm k
              generalize ln k = n at *
              go_upto_region 22 with fail
              go_loopw [10] (W6Rel wr n) (fun t _ => n + 40 - (intOf t).toNat)
              case atStart => exact ⟨0, Nat.zero_le _, rfl, rfl⟩
              case round =>
                obtain ⟨i, hi, rfl, rfl⟩ := hrel
                by_cases hin : i < n + 40
                · have e0 := HCEL.out i (mrk k) (by rw [List.getElem?_replicate, if_pos hin])
                  unfold mrk at e0
                  have hini : (i : Int) < (n : Int) + 40 := by omega
                  by_cases hi2 : i < n
                  · rcases HOF.out with ⟨_, h0, _⟩ | ⟨g, hg, _, _⟩
                    · omega
                    have f0 := HRV.out g hg i (mrk k) (by rw [List.getElem?_replicate, if_pos hi2])
                    unfold mrk at f0
                    subst hg
                    go_wp2
                    exact ⟨⟨i + 1, by omega, by go_num, rfl⟩, by simp [intOf]; omega⟩
                  · go_wp2
                    exact ⟨⟨i + 1, by omega, by go_num, rfl⟩, by simp [intOf]; omega⟩
                · have hini : ¬ (i : Int) < (n : Int) + 40 := by omega
                  go_wp2
                  exact ⟨⟨k + 1, by omega, by go_num, rfl⟩, by simp [intOf]; omega⟩
            · go_wp2
              go_ret
              exact ⟨rfl, HB.out.trans HW.out.bb⟩
end Go.Proofs.Ytaffgoacbiedlaa.G.B
namespace Go.Proofs.Ytaffgoacbiedlaa.G.I
open Go.RowKit Go.Proofs.Ytaffgoacbiedlaa.G
set_option linter.unusedVariables false
set_option linter.unusedSimpArgs false

/-- The mark of list k. -/
def mrk (k : Nat) : Value := .int .i64 (-1 - (k : Int))
theorem infoE : (Try.prog.info? 3).map (fun i => (i.zero, i.size, i.bytes)) = some (some (.int .i64 0), 1, 8) := by kernel_rfl
theorem infoS : (Try.prog.info? 39).map (fun i => (i.zero, i.size, i.bytes)) = some (some (.slice none 0 0), 1, 24) := by kernel_rfl
theorem rep_snoc (k n : Nat) : List.replicate n (mrk k) ++ [mrk k] = List.replicate (n + 1) (mrk k) := by rw [← List.replicate_succ']
/-- Four lists, and the list of them. -/
structure Mk (w : World) (bl : Nat) (q : Nat → Option Addr) (cp : Nat → Nat) (ln : Nat → Nat) (K : Nat → List Value) : Prop where
  c : ∀ k, k < 2 → w.cell? ⟨bl, k, none⟩ = some (.slice (q k) (ln k) (cp k))
  ow : ∀ k, k < 2 → Ow w 0 3 1 (q k) (ln k) (cp k) (K k)
  len : ∀ k, k < 2 → (K k).length = ln k
  ne : ∀ a b j, a < 2 → b < 2 → a ≠ b → Blk (q a) j → ¬ Blk (q b) j
  nb : ∀ k, k < 2 → ¬ Blk (q k) bl
  small : ∀ k, ln k ≤ 100000
def Qb (q : Nat → Option Addr) (j : Nat) : Prop := ∃ k, k < 2 ∧ Blk (q k) j
theorem Qb.of {q : Nat → Option Addr} {k j : Nat} (h : k < 2) (hj : Blk (q k) j) : Qb q j := ⟨k, h, hj⟩
theorem apart2 {q : Nat → Option Addr} (h : ∀ a b j, a < 2 → b < 2 → a ≠ b → Blk (q a) j → ¬ Blk (q b) j) {a b j : Nat} (ha : a < 2) (hb : b < 2) (hne : a ≠ b) (h1 : Blk (q a) j) : ¬ Blk (q b) j := h a b j ha hb hne h1
/-- One element of list k is written. -/
theorem Mk.set {w : World} {bl : Nat} {q : Nat → Option Addr} {cp : Nat → Nat} {ln : Nat → Nat} {K : Nat → List Value} (h : Mk w bl q cp ln K) {k i g : Nat} (hk : k < 2) (hg : q k = some ⟨g, 0, none⟩) (c : Value) : Mk (w.setCell ⟨g, i, none⟩ c) bl q cp ln (fun j => if j = k then (K k).set i c else K j) ∧ But (Qb q) w (w.setCell ⟨g, i, none⟩ c) := by
  have hgb : Blk (q k) g := ⟨_, hg, rfl⟩
  have hb : But (· = g) w (w.setCell ⟨g, i, none⟩ c) := But.setCell (S := (· = g)) (But.refl _ _) (p := ⟨g, i, none⟩) (by rfl) _
  refine ⟨⟨fun j hj => cell_but hb (h.c j hj) (fun e => h.nb k hk (by show Blk (q k) bl; rw [show bl = g from e]; exact hgb)), fun j hj => ?_, fun j hj => ?_, h.ne, h.nb, h.small⟩, hb.mono (fun j e => Qb.of hk (by rw [show j = g from e]; exact hgb))⟩
  · by_cases e : j = k
    · subst e
      rw [if_pos rfl]
      have := h.ow j hj
      rw [hg] at this ⊢
      exact this.set1 i c
    · rw [if_neg e]
      refine (h.ow j hj).but hb (fun m hm e2 => ?_)
      exact apart2 h.ne hj hk e hm (by rw [show m = g from e2]; exact hgb)
  · by_cases e : j = k
    · subst e
      rw [if_pos rfl, List.length_set]
      exact h.len j hj
    · rw [if_neg e]
      exact h.len j hj
/-- Those ahead of k are full of their marks. -/
def Full (ln : Nat → Nat) (k : Nat) (K : Nat → List Value) : Prop := ∀ j, j < k → j < 2 → K j = List.replicate (ln j) (mrk j)
def W1Rel (w : World) (bl : Nat) (q : Nat → Option Addr) (cp : Nat → Nat) (ln : Nat → Nat) (t : Value) (w' : World) : Prop :=
  ∃ (k : Nat) (K : Nat → List Value), k ≤ 2 ∧ t = .int .i64 (k : Int) ∧ Mk w' bl q cp ln K ∧ Full ln k K ∧ But (Qb q) w w'
def W2Rel (w : World) (bl : Nat) (q : Nat → Option Addr) (cp : Nat → Nat) (ln : Nat → Nat) (k : Nat) (t : Value) (w' : World) : Prop :=
  ∃ (i : Nat) (K : Nat → List Value), i ≤ ln k ∧ t = .int .i64 (i : Int) ∧ Mk w' bl q cp ln K ∧ Full ln k K ∧ (∀ j, j < i → (K k)[j]? = some (mrk k)) ∧ But (Qb q) w w'
def W4Rel (wc : World) (a : Option Addr) (c0 n k : Nat) (s t : Value) (w' : World) : Prop :=
  ∃ (i : Nat) (b : Option Addr) (c : Nat), i ≤ 40 ∧ t = .int .i64 (i : Int) ∧ s = .slice b (n + i) c ∧ Lz wc w' 0 3 1 a c0 ((List.replicate n (mrk k))) b c (n + i) ((List.replicate (n + i) (mrk k)))
/-- The lists so far. -/
structure W3 (wb : World) (q : Nat → Option Addr) (cp : Nat → Nat) (ln : Nat → Nat) (k : Nat) (a : Option Addr) (cap : Nat) (L : List Value) (w : World) : Prop where
  ow : Own w wb.heap.size 39 a k cap L
  bb : But (Qb q) wb w
  rv : ∀ j, j < 2 → Rv w (q j) ((List.replicate (ln j) (mrk j)))
  fu : ∀ j, k ≤ j → j < 2 → Ow w 0 3 1 (q j) (ln j) (cp j) ((List.replicate (ln j) (mrk j)))
  el : ∀ j v, L[j]? = some v → ∃ b c, v = .slice b (ln j + 40) c ∧ Rv w b (List.replicate (ln j + 40) (mrk j)) ∧ (∃ g, b = some ⟨g, 0, none⟩) ∧ ∀ i, Blk b i → ¬ Blk a i ∧ i < w.heap.size ∧ (Blk (q j) i ∨ wb.heap.size ≤ i)
def W3Rel (wb : World) (q : Nat → Option Addr) (cp : Nat → Nat) (ln : Nat → Nat) (s t : Value) (w' : World) : Prop :=
  ∃ (k : Nat) (a : Option Addr) (cap : Nat) (L : List Value), k ≤ 2 ∧ t = .int .i64 (k : Int) ∧ s = .slice a k cap ∧ W3 wb q cp ln k a cap L w'
def W6Rel (w : World) (n : Nat) (t : Value) (w' : World) : Prop := ∃ i : Nat, i ≤ n + 40 ∧ t = .int .i64 (i : Int) ∧ w' = w
def W5Rel (w : World) (t : Value) (w' : World) : Prop := ∃ k : Nat, k ≤ 2 ∧ t = .int .i64 (k : Int) ∧ w' = w
/-- A list is lengthened and put in with the others. -/
theorem W3.next {wb wc we : World} {q : Nat → Option Addr} {cp : Nat → Nat} {ln : Nat → Nat} {k : Nat} {a : Option Addr} {cap : Nat} {L : List Value} (h : W3 wb q cp ln k a cap L wc) (hk : k < 2) (ne : ∀ a b j, a < 2 → b < 2 → a ≠ b → Blk (q a) j → ¬ Blk (q b) j) (hq : ∀ j, j < 2 → ∀ i, Blk (q j) i → i < wb.heap.size) (hn : ln k ≤ 100000) {b : Option Addr} {c : Nat}
    (hz : Lz wc we 0 3 1 (q k) (cp k) ((List.replicate (ln k) (mrk k))) b c (ln k + 40) ((List.replicate (ln k + 40) (mrk k)))) :
    ∃ a6 cap6 w6, (Builtin.append_ #[51, 51] 51 #[.slice a k cap, .slice (some ⟨we.heap.size, 0, none⟩) 1 1]).run Try.prog (we.alloc (Obj.cells #[.slice b (ln k + 40) c] 39)) = .ok (.slice a6 (k + 1) cap6) w6 ∧ W3 wb q cp ln (k + 1) a6 cap6 (L ++ [.slice b (ln k + 40) c]) w6 := by
  have hbx := below1 we (Obj.cells #[.slice b (ln k + 40) c] 39)
  have hsc := h.bb.size
  have hse := hz.gr.but.size
  have hab : ∀ i, Blk a i → wb.heap.size ≤ i ∧ i < wc.heap.size := fun i hi => ⟨h.ow.blk i hi, h.ow.lt i hi⟩
  have hqk : ∀ i, Blk (q k) i → i < wb.heap.size := hq k hk
  have hOb := (h.ow.but hz.gr.but (fun i hi hi2 => by have := hab i hi; have := hqk i hi2; omega)).later hbx
  obtain ⟨a6, cap6, w6, hr6, ho6, hg6⟩ := append_gen 51 39 _ 24 Try.underlying51 infoS rfl hOb (Row.single we 39 (.slice b (ln k + 40) c) rfl) (Nat.le_trans hsc (Nat.le_trans hse hbx.size)) (by omega) (by omega)
  have hs6 := hg6.but.size
  have hsx := hbx.size
  have hbl : ∀ i, Blk b i → (Blk (q k) i ∨ wc.heap.size ≤ i) ∧ i < we.heap.size := fun i hi => ⟨hz.gr.on i hi, (hz.ow.blk i hi).2⟩
  refine ⟨a6, cap6, w6, hr6, ho6, ?_, fun j hj => ?_, fun j hj hj2 => ?_, fun j v hv => ?_⟩
  · exact (((h.bb.trans (hz.gr.but.mono (fun i hi => Qb.of hk hi))).call hbx)).comp hg6.but (fun i hi => .inr (hab i hi).1)
  · have h1 : Rv we (q j) ((List.replicate (ln j) (mrk j))) := by
      by_cases e : j = k
      · subst e; exact hz.rv
      · exact (h.rv j hj).but hz.gr.but (fun i hi => apart2 ne hj hk e hi)
    exact (h1.later hbx).but hg6.but (fun i hi hi2 => by have := hab i hi2; have := hq j hj i hi; omega)
  · have h1 := (h.fu j (by omega) hj2).but hz.gr.but (fun i hi => apart2 ne hj2 hk (by omega) hi)
    exact (h1.later hbx).but hg6.but (fun i hi hi2 => by have := hab i hi2; have := hq j hj2 i hi; omega)
  · have hL := h.ow.len
    rcases Nat.lt_or_ge j k with h3 | h3
    · rw [List.getElem?_append_left (by omega)] at hv
      obtain ⟨b', c', e, hrd, hgg, hnb⟩ := h.el j v hv
      have hrd1 := hrd.but hz.gr.but (fun i hi hi2 => by
        rcases (hnb i hi).2.2 with h4 | h4
        · exact apart2 ne (by omega) hk (by omega) h4 hi2
        · have := hqk i hi2; omega)
      refine ⟨b', c', e, (hrd1.later hbx).but hg6.but (fun i hi => (hnb i hi).1), hgg, fun i hi => ⟨fun hi2 => ?_, by have := (hnb i hi).2.1; omega, (hnb i hi).2.2⟩⟩
      rcases hg6.on i hi2 with h4 | h4
      · exact (hnb i hi).1 h4
      · have := (hnb i hi).2.1; omega
    · have hj : j = k := by
        have := (List.getElem?_eq_some_iff.1 hv).1
        simp at this
        omega
      subst hj
      rw [List.getElem?_append_right (by omega)] at hv
      have e0 : j - L.length = 0 := by omega
      rw [e0] at hv
      simp at hv
      subst hv
      have hgb : ∃ g, b = some ⟨g, 0, none⟩ := by
        rcases hz.ow.form with ⟨_, h0, _⟩ | ⟨g, hg, _⟩
        · omega
        · exact ⟨g, hg⟩
      have hna : ∀ i, Blk b i → ¬ Blk a i := fun i hi hi2 => by
        have h5 := hab i hi2
        rcases (hbl i hi).1 with h4 | h4
        · have := hqk i h4; omega
        · omega
      refine ⟨b, c, rfl, (hz.ow.rv.later hbx).but hg6.but hna, hgb, fun i hi => ⟨fun hi2 => ?_, by have := (hbl i hi).2; omega, ?_⟩⟩
      · rcases hg6.on i hi2 with h4 | h4
        · exact hna i hi h4
        · have := (hbl i hi).2; omega
      · rcases (hbl i hi).1 with h4 | h4
        · exact .inl h4
        · exact .inr (by omega)
set_option maxRecDepth 100000 in
set_option maxHeartbeats 20000000 in
theorem mark_any {w : World} {bl : Nat} {q : Nat → Option Addr} {cp : Nat → Nat} {ln : Nat → Nat} {K0 : Nat → List Value} (cl : Nat) (h : Mk w bl q cp ln K0) :
    Calls Try.prog 19 #[.slice (some ⟨bl, 0, none⟩) 2 cl] w fun e w' => e = .returned (.bool true) ∧ But (Qb q) w w' := by
  have HH := hid h
  have hsm := h.small
  clear h
  go_enter Try.func19, Try.ntmps19
  go_upto_region 2 with fail
  go_loopw [3] (W1Rel w bl q cp ln) (fun t _ => 2 - (intOf t).toNat)
  case atStart => exact ⟨0, K0, by omega, rfl, HH.out, fun j hj => absurd hj (Nat.not_lt_zero _), But.refl _ _⟩
  case round =>
    obtain ⟨k, K, hk, rfl, hM, hF, hB⟩ := hrel
    have HM := hid hM
    have HF := hid hF
    have HB := hid hB
    clear hM hF hB
    by_cases hk2 : k < 2
    · go_upto_region 5 with fail
      go_loopw [4] (W2Rel w bl q cp ln k) (fun t _ => ln k - (intOf t).toNat)
      case atStart => exact ⟨0, K, Nat.zero_le _, rfl, HM.out, HF.out, fun j hj => absurd hj (Nat.not_lt_zero _), HB.out⟩
      case round =>
        obtain ⟨i, K2, hi, rfl, hM2, hF2, hm2, hB2⟩ := hrel
        have x0 := hM2.c k hk2
        have HM2 := hid hM2
        have HF2 := hid hF2
        have HM3 := hid hm2
        have HB2 := hid hB2
        clear hF2 hm2 hB2
        by_cases hlt : i < ln k
        · have hOw := hM2.ow k hk2
          have hl := hM2.len k hk2
          obtain ⟨c, hc⟩ : ∃ c, (K2 k)[i]? = some c := ⟨_, List.getElem?_eq_getElem (by omega)⟩
          rcases hOw.form with ⟨_, h0, _⟩ | ⟨g, hg, hfr, hnc⟩
          · omega
          have c0 := hOw.rv g hg i c hc
          have hfg := hfr i
          have HST := hid (hM2.set (i := i) hk2 hg (mrk k))
          unfold mrk at HST
          rw [hg] at x0
          have hwr : IntKind.i64.wrap (-1 - (k : Int)) = -1 - (k : Int) := by rw [IntKind.wrap_i64]; omega
          generalize cp k = cpk at *
          have hsk := hsm k
          generalize hnk : ln k = n at *
          have HNK := hid hnk
          clear hM2 hOw hc hg hnk hfr
          go_wp2
          refine ⟨⟨i + 1, _, by have := HNK.out; omega, by go_num, HST.out.1, fun j hj hj2 => ?_, fun j hj => ?_, HB2.out.trans HST.out.2⟩, by simp [intOf]; omega⟩
          · have e : ¬ j = k := by omega
            simp only [if_neg e]
            exact HF2.out j hj hj2
          · simp only [if_true]
            rw [List.getElem?_set]
            by_cases e : i = j
            · subst e
              rw [if_pos rfl, if_pos (by omega)]
              rfl
            · rw [if_neg e]
              exact HM3.out j (by omega)
        · have hfu : Full ln (k + 1) K2 := fun j hj hj2 => by
            rcases Nat.lt_or_ge j k with h3 | h3
            · exact HF2.out j h3 hj2
            · obtain rfl : j = k := by omega
              apply List.ext_getElem?
              intro m
              have hl := HM2.out.len j hk2
              rcases Nat.lt_or_ge m (ln j) with h4 | h4
              · rw [HM3.out m (by omega), List.getElem?_replicate, if_pos h4]
              · rw [List.getElem?_eq_none (by omega), List.getElem?_eq_none (by simp; omega)]
          have HFU := hid hfu
          generalize q k = qk at x0
          generalize cp k = cpk at x0
          have hsk := hsm k
          generalize hnk : ln k = n at x0 hi hlt hsk ⊢
          have HNK := hid hnk
          clear hM2 hfu hnk
          go_wp2
          exact ⟨⟨k + 1, K2, by omega, by go_num, HM2.out, HFU.out, HB2.out⟩, by simp [intOf]; omega⟩
    · obtain rfl : k = 2 := by omega
      have HW0 : Hid (W3 wr q cp ln 0 none 0 [] wr) := ⟨Own.nil _ _ _, But.refl _ _, fun j hj => by have := (HM.out.ow j hj).rv; rwa [HF.out j hj hj] at this, fun j _ hj => by have := HM.out.ow j hj; rwa [HF.out j hj hj] at this, fun j v hv => by cases hv⟩
      have HQ : Hid (∀ j, j < 2 → ∀ i, Blk (q j) i → i < wr.heap.size) := fun j hj i hi => ((HM.out.ow j hj).blk i hi).2
      go_upto_region 10 with fail
      obtain ⟨wb, hwb⟩ : ∃ wb, wb = wr := ⟨_, rfl⟩
      rw [← hwb] at HM HB HW0 HQ ⊢
      clear hwb
      simp only [Int.cast_ofNat_Int]
      go_loopw [5, 6] (W3Rel wb q cp ln) (fun _ t _ => 2 - (intOf t).toNat)
      case atStart => exact ⟨0, none, 0, [], by omega, rfl, rfl, HW0.out⟩
      case round =>
        obtain ⟨k, a, cap, L, hk, rfl, rfl, hW⟩ := hrel
        have HW := hid hW
        by_cases hk2 : k < 2
        · have x0 := cell_but hW.bb (HM.out.c k hk2) (fun e => by obtain ⟨z, hz, e⟩ := e; exact HM.out.nb z hz e)
          have hwr : IntKind.i64.wrap (-1 - (k : Int)) = -1 - (k : Int) := by rw [IntKind.wrap_i64]; omega
          have hkd : decide ((k : Int) < 2) = true := decide_eq_true (by omega)
          have HLZ := hid (Lz.start (hW.fu k (Nat.le_refl _) hk2))
          have HNX : Hid (∀ (we : World) (b : Option Addr) (c : Nat), Lz wr we 0 3 1 (q k) (cp k) ((List.replicate (ln k) (mrk k))) b c (ln k + 40) ((List.replicate (ln k + 40) (mrk k))) → ∃ a6 cap6 w6, (Builtin.append_ #[51, 51] 51 #[.slice a k cap, .slice (some ⟨we.heap.size, 0, none⟩) 1 1]).run Try.prog (we.alloc (Obj.cells #[.slice b (ln k + 40) c] 39)) = .ok (.slice a6 (k + 1) cap6) w6 ∧ W3 wb q cp ln (k + 1) a6 cap6 (L ++ [.slice b (ln k + 40) c]) w6) := fun we b c hz => HW.out.next hk2 HM.out.ne HQ.out (hsm k) hz
          clear hW
          generalize q k = qk at *
          generalize cp k = cpk at *
          have hsk := hsm k
          generalize ln k = n at *
          go_upto_region 14 with fail
          clear hkd
          obtain ⟨wc, hwc⟩ : ∃ wc, wc = wr := ⟨_, rfl⟩
          rw [← hwc] at HW HLZ HNX x0 ⊢
          clear hwc x0
          go_loopw [7, 8] (W4Rel wc qk cpk n k) (fun _ t _ => 40 - (intOf t).toNat)
          case atStart => exact ⟨0, _, _, by omega, rfl, rfl, HLZ.out⟩
          case round =>
            obtain ⟨i, b4, c4, hi, rfl, rfl, hz⟩ := hrel
            by_cases hi4 : i < 40
            · have hbx := below1 wr (Obj.cells #[.int .i64 (-1 - (k : Int))] 3)
              have hcx : Cr (wr.alloc (Obj.cells #[.int .i64 (-1 - (k : Int))] 3)) 1 (some ⟨wr.heap.size, 0, none⟩) 1 1 [mrk k] := Cr.lit wr 3 [mrk k] (fun u hu => by simp at hu; subst hu; rfl)
              obtain ⟨a5, cap5, w5, hr5, hz5⟩ := Lz.app 39 3 _ 1 8 Try.underlying39 infoE rfl (by omega) (by omega) hz hbx hcx (by omega) (Nat.zero_le _) (by omega)
              rw [rep_snoc] at hz5
              have HR5 := hid hr5
              have HZ5 := hid hz5
              clear hr5 hz5 hbx hcx hz
              go_wp2_with (first | (at_builtin; refine wpList_append_known rfl _ _ 39 rfl _ _ rfl rfl _ w5 HR5.out ?_))
              exact ⟨⟨i + 1, a5, cap5, by omega, by go_num, by rw [Nat.add_assoc], HZ5.out⟩, by simp [intOf]; omega⟩
            · obtain rfl : i = 40 := by omega
              obtain ⟨a6, cap6, w6, hr6, hW6⟩ := HNX.out wr b4 c4 hz
              have HR6 := hid hr6
              have HW6 := hid hW6
              clear hr6 hW6 hz
              go_wp2_with (first | (at_builtin; refine wpList_append_known rfl _ _ 51 rfl _ _ rfl rfl _ w6 HR6.out ?_))
              exact ⟨⟨k + 1, a6, cap6, _, by omega, by go_num, rfl, HW6.out⟩, by simp [intOf]; omega⟩
        · obtain rfl : k = 2 := by omega
          have HRw := hid hW.ow.read
          clear hW
          go_upto_region 19 with fail
          obtain ⟨wd, hwd⟩ : ∃ wd, wd = wr := ⟨_, rfl⟩
          rw [← hwd] at HRw HW ⊢
          clear hwd
          simp only [Int.cast_ofNat_Int]
          have HMd : Hid (∀ k, k < 2 → wd.cell? ⟨bl, k, none⟩ = some (.slice (q k) (ln k) (cp k))) := fun k hk => cell_but HW.out.bb (HM.out.c k hk) (fun e => by obtain ⟨z, hz, e⟩ := e; exact HM.out.nb z hz e)
          go_loopw [9] (W5Rel wd) (fun t _ => 2 - (intOf t).toNat)
          case atStart => exact ⟨0, by omega, rfl, rfl⟩
          case round =>
            obtain ⟨k, hk, rfl, rfl⟩ := hrel
            by_cases hk2 : k < 2
            · have hwr : IntKind.i64.wrap (-1 - (k : Int)) = -1 - (k : Int) := by rw [IntKind.wrap_i64]; omega
              obtain ⟨v, hv⟩ : ∃ v, L[k]? = some v := ⟨_, List.getElem?_eq_getElem (by rw [HRw.out.len]; exact hk2)⟩
              obtain ⟨bx, cx, rfl, hrd, ⟨bb, rfl⟩, _⟩ := HW.out.el k v hv
              obtain ⟨ba, oa, rfl, hcl⟩ := HRw.out.plain (by omega)
              have xl := hcl k _ hv
              have HCEL := hid (hrd bb rfl)
              have xa := HMd.out k hk2
              have HRV := hid (HW.out.rv k hk2)
              have HOF := hid ((HM.out.ow k hk2).form)
              clear hv hrd hcl
              generalize q k = qk at *
              generalize cp k = cpk at *
              have hsk := hsm k
              generalize ln k = n at *
              go_upto_region 22 with fail
              go_loopw [10] (W6Rel wr n) (fun t _ => n + 40 - (intOf t).toNat)
              case atStart => exact ⟨0, Nat.zero_le _, rfl, rfl⟩
              case round =>
                obtain ⟨i, hi, rfl, rfl⟩ := hrel
                by_cases hin : i < n + 40
                · have e0 := HCEL.out i (mrk k) (by rw [List.getElem?_replicate, if_pos hin])
                  unfold mrk at e0
                  have hini : (i : Int) < (n : Int) + 40 := by omega
                  by_cases hi2 : i < n
                  · rcases HOF.out with ⟨_, h0, _⟩ | ⟨g, hg, _, _⟩
                    · omega
                    have f0 := HRV.out g hg i (mrk k) (by rw [List.getElem?_replicate, if_pos hi2])
                    unfold mrk at f0
                    subst hg
                    go_wp2
                    exact ⟨⟨i + 1, by omega, by go_num, rfl⟩, by simp [intOf]; omega⟩
                  · go_wp2
                    exact ⟨⟨i + 1, by omega, by go_num, rfl⟩, by simp [intOf]; omega⟩
                · have hini : ¬ (i : Int) < (n : Int) + 40 := by omega
                  go_wp2
                  exact ⟨⟨k + 1, by omega, by go_num, rfl⟩, by simp [intOf]; omega⟩
            · go_wp2
              go_ret
              exact ⟨rfl, HB.out.trans HW.out.bb⟩
end Go.Proofs.Ytaffgoacbiedlaa.G.I
namespace Go.Proofs.Ytaffgoacbiedlaa
open Go.RowKit
set_option linter.unusedVariables false
set_option linter.unusedSimpArgs false

theorem Row.but9 {S : Nat → Prop} {w w' : World} {a : Option Addr} {n cap : Nat} {L : List Nat} (hb : But S w w') (h : Row w a n cap L) (hn : ∀ k, Blk a k → ¬ S k) : Row w' a n cap L :=
  ⟨h.len, h.cap_, h.none_, fun x hx j u hu => G.cell_but hb (h.cells x hx j u hu) (by rw [G.add_block]; exact hn _ ⟨x, hx, rfl⟩), h.small⟩
theorem Own.lt9 {w : World} {base : Nat} {a : Option Addr} {n cap : Nat} {L : List Nat} (h : Own w base a n cap L) : ∀ k, Blk a k → k < w.heap.size := fun k hk => (G.own_block h.row k (Blk.of.2 hk)).2
theorem Own.but9 {S : Nat → Prop} {w w' : World} {base : Nat} {a : Option Addr} {n cap : Nat} {L : List Nat} (hb : But S w w') (h : Own w base a n cap L) (hS : ∀ k, Blk a k → ¬ S k) : Own w' base a n cap L := ⟨G.own_but hb h.row (fun k hk => hS k (Blk.of.1 hk)), h.small⟩
theorem Own.at9 {w : World} {base : Nat} {a : Option Addr} {n cap : Nat} {L : List Nat} (h : Own w base a n cap L) (hn : 0 < n) : ∃ g, a = some ⟨g, 0, none⟩ ∧ (∀ j, w.frozen? ⟨g, j, none⟩ = false) ∧ ∀ (j x : Nat), L[j]? = some x → w.cell? ⟨g, j, none⟩ = some (.int .u8 (x : Int)) := by
  have ho : G.Ow w base 5 1 a n cap (u8s L) := h.row
  rcases ho.form with ⟨_, h0, _⟩ | ⟨g, hg, hf, _⟩
  · omega
  · exact ⟨g, hg, hf, fun j x hx => ho.rv g hg j _ (by simp [u8s, hx])⟩
theorem Own.put9 {w : World} {base g n cap : Nat} {L : List Nat} (h : Own w base (some ⟨g, 0, none⟩) n cap L) (j x : Nat) (hx : x < 256) : Own (w.setCell ⟨g, j, none⟩ (.int .u8 (x : Int))) base (some ⟨g, 0, none⟩) n cap (L.set j x) :=
  ⟨by
    have := G.Ow.set1 (show G.Ow w base 5 1 (some ⟨g, 0, none⟩) n cap (u8s L) from h.row) j (.int .u8 (x : Int))
    unfold u8s at this ⊢
    rw [List.map_set]
    exact this, fun y hy => by
    rcases List.mem_or_eq_of_mem_set hy with h1 | h1
    · exact h.small y h1
    · subst h1; exact hx⟩
theorem OI.at9 {w : World} {base : Nat} {a : Option Addr} {n cap : Nat} {L : List Int} (h : OI w base a n cap L) (hn : 0 < n) : ∃ g, a = some ⟨g, 0, none⟩ ∧ (∀ j, w.frozen? ⟨g, j, none⟩ = false) ∧ ∀ (j : Nat) (x : Int), L[j]? = some x → w.cell? ⟨g, j, none⟩ = some (.int .i64 x) := by
  have ho : G.Ow w base 3 1 a n cap (i64s L) := h
  rcases ho.form with ⟨_, h0, _⟩ | ⟨g, hg, hf, _⟩
  · omega
  · exact ⟨g, hg, hf, fun j x hx => ho.rv g hg j _ (by simp [i64s, hx])⟩
theorem OI.put9 {w : World} {base g n cap : Nat} {L : List Int} (h : OI w base (some ⟨g, 0, none⟩) n cap L) (j : Nat) (x : Int) : OI (w.setCell ⟨g, j, none⟩ (.int .i64 x)) base (some ⟨g, 0, none⟩) n cap (L.set j x) := by
  have := G.Ow.set1 (show G.Ow w base 3 1 (some ⟨g, 0, none⟩) n cap (i64s L) from h) j (.int .i64 x)
  unfold OI i64s at *
  rw [List.map_set]
  exact this
theorem RI.take9 {w : World} {a : Option Addr} {n cap : Nat} {L : List Int} (h : RI w a n cap L) (i : Nat) (hi : i ≤ n) (hz : a ≠ none) : RI w a i cap (L.take i) := by
  have hl := h.len
  have hc := h.cap_
  refine ⟨by rw [List.length_take]; omega, by omega, fun e => absurd e hz, fun x hx j u hu => ?_⟩
  refine h.cells x hx j u ?_
  rw [← hu]
  have hj : j < i := by
    have := (List.getElem?_eq_some_iff.1 hu).1
    simp [i64s] at this
    omega
  simp [i64s, List.getElem?_take, hj]
theorem store_old {w : World} {b : Nat} {L L2 : List Value} (h : Bx w b L) (hl : L2.length = L.length) (h1 : ∀ v ∈ L2, v.oneCell' = true) : ∃ w', (storeCells ⟨b, 0, none⟩ L2).run Try.prog w = .ok () w' ∧ Bx w' b L2 ∧ But (· = b) w w' :=
  ⟨_, stc h.there hl h1, h.set hl, setCells_but (S := (· = b)) rfl L2 0 (But.refl _ _)⟩
/-- The two calls, the lists that they are made of, in the front of longer ones. -/
structure Ba (w W : World) (r bo bp : Nat) (Mo Mp : List Value) (o p : Cl) (ra : Option Addr) (rc : Nat) (ga : Option Addr) (gc : Nat) : Prop where
  bl : Below w.heap.size w W
  xo : Bx W bo Mo
  xp : Bx W bp Mp
  mo : ∃ g : Sl, Mo = cC o ⟨ra, o.data.length, rc⟩ g ∧ ∀ U, RI U g.a g.n g.c o.gifts
  mp : ∃ d : Sl, Mp = cC p d ⟨ga, p.gifts.length, gc⟩ ∧ ∀ U, Row U d.a d.n d.c p.data
  ro : Own W w.heap.size ra (o.data.length + 4) rc (o.data ++ [1, 2, 3, 4])
  gi : OI W w.heap.size ga (p.gifts.length + 3) gc (p.gifts ++ [901, 902, 903])
  fo : fm o = true
  fp : fm p = true
  o6 : o.op = 6
  p9 : p.op = 9
  ho : o.hi < 18446744073709551616 ∧ o.lo < 18446744073709551616
  hp : p.hi < 18446744073709551616 ∧ p.lo < 18446744073709551616
  rl : r ≤ W.heap.size
  bs : w.heap.size ≤ bo ∧ bo < bp ∧ bp < r
  lr : ∀ k, Blk ra k → k < r ∧ k ≠ bo ∧ k ≠ bp
  lg : ∀ k, Blk ga k → k < r ∧ k ≠ bo ∧ k ≠ bp
theorem Ba.but {w W W2 : World} {r bo bp : Nat} {Mo Mp : List Value} {o p : Cl} {ra : Option Addr} {rc : Nat} {ga : Option Addr} {gc : Nat} {S : Nat → Prop} (h : Ba w W r bo bp Mo Mp o p ra rc ga gc) (hb : But S W W2) (hS : ∀ k, S k → r ≤ k) : Ba w W2 r bo bp Mo Mp o p ra rc ga gc := by
  have hbs := h.bs
  have hbl := h.bl.size
  refine ⟨?_, h.xo.but hb (fun e => by have := hS _ e; omega), h.xp.but hb (fun e => by have := hS _ e; omega), h.mo, h.mp, h.ro.but9 hb (fun k hk e => by have := h.lr k hk; have := hS k e; omega), h.gi.but hb (fun k hk e => by have := h.lg k hk; have := hS k e; omega), h.fo, h.fp, h.o6, h.p9, h.ho, h.hp, Nat.le_trans h.rl hb.size, h.bs, h.lr, h.lg⟩
  exact But.below h.bl hb (fun k hk => by have := hS k hk; omega)
theorem Ba.later {w W W2 : World} {r bo bp : Nat} {Mo Mp : List Value} {o p : Cl} {ra : Option Addr} {rc : Nat} {ga : Option Addr} {gc : Nat} (h : Ba w W r bo bp Mo Mp o p ra rc ga gc) (hb : Below W.heap.size W W2) : Ba w W2 r bo bp Mo Mp o p ra rc ga gc := h.but (S := fun _ => False) (But.of hb) (fun _ e => e.elim)
theorem Ba.ra_ {w W : World} {r bo bp : Nat} {Mo Mp : List Value} {o p : Cl} {ra : Option Addr} {rc : Nat} {ga : Option Addr} {gc : Nat} (h : Ba w W r bo bp Mo Mp o p ra rc ga gc) : ∃ g, ra = some ⟨g, 0, none⟩ := by
  obtain ⟨g, hg, _⟩ := h.ro.at9 (by omega)
  exact ⟨g, hg⟩
theorem Ba.ga_ {w W : World} {r bo bp : Nat} {Mo Mp : List Value} {o p : Cl} {ra : Option Addr} {rc : Nat} {ga : Option Addr} {gc : Nat} (h : Ba w W r bo bp Mo Mp o p ra rc ga gc) : ∃ g, ga = some ⟨g, 0, none⟩ := by
  obtain ⟨g, hg, _⟩ := h.gi.at9 (by omega)
  exact ⟨g, hg⟩
theorem Ba.row {w W : World} {r bo bp : Nat} {Mo Mp : List Value} {o p : Cl} {ra : Option Addr} {rc : Nat} {ga : Option Addr} {gc : Nat} (h : Ba w W r bo bp Mo Mp o p ra rc ga gc) (m : Nat) (hm : m ≤ o.data.length) : Row W ra m rc (o.data.take m) := by
  have := h.ro.read.take m (by omega) (fun e => by obtain ⟨g, hg⟩ := h.ra_; rw [hg] at e; cases e)
  rwa [List.take_append_of_le_length hm] at this
theorem Ba.co {w W : World} {r bo bp : Nat} {Mo Mp : List Value} {o p : Cl} {ra : Option Addr} {rc : Nat} {ga : Option Addr} {gc : Nat} (h : Ba w W r bo bp Mo Mp o p ra rc ga gc) : Cc W Mo o := by
  obtain ⟨g, e, hg⟩ := h.mo
  have := h.row o.data.length (Nat.le_refl _)
  rw [List.take_length] at this
  exact ⟨_, _, e, this, hg W, h.ho.1, h.ho.2⟩
theorem Ba.cp {w W : World} {r bo bp : Nat} {Mo Mp : List Value} {o p : Cl} {ra : Option Addr} {rc : Nat} {ga : Option Addr} {gc : Nat} (h : Ba w W r bo bp Mo Mp o p ra rc ga gc) : Cc W Mp p := by
  obtain ⟨d, e, hd⟩ := h.mp
  have := h.gi.read.take9 p.gifts.length (by omega) (fun e => by obtain ⟨g, hg⟩ := h.ga_; rw [hg] at e; cases e)
  rw [List.take_left] at this
  exact ⟨_, _, e, hd W, this, h.hp.1, h.hp.2⟩
theorem Ba.mo10 {w W : World} {r bo bp : Nat} {Mo Mp : List Value} {o p : Cl} {ra : Option Addr} {rc : Nat} {ga : Option Addr} {gc : Nat} (h : Ba w W r bo bp Mo Mp o p ra rc ga gc) : Mo[10]? = some (.slice ra o.data.length rc) := by
  obtain ⟨g, e, _⟩ := h.mo
  rw [e]; rfl
theorem Ba.mp12 {w W : World} {r bo bp : Nat} {Mo Mp : List Value} {o p : Cl} {ra : Option Addr} {rc : Nat} {ga : Option Addr} {gc : Nat} (h : Ba w W r bo bp Mo Mp o p ra rc ga gc) : Mp[12]? = some (.slice ga p.gifts.length gc) := by
  obtain ⟨g, e, _⟩ := h.mp
  rw [e]; rfl
/-- The reply that tells what was read. -/
def rpO (o : Cl) : Rp := ⟨0, 0, 0, 0, o.data.take (min o.data.length 1024), 0⟩
theorem rpO_fm (o : Cl) : rfm 5 (rpO o) = true := by
  have : (o.data.take (min o.data.length 1024)).length ≤ 1024 := by rw [List.length_take]; omega
  simp [rfm, rpO, wi, tnB, unt]
  omega
theorem Ba.rr {w W : World} {r bo bp : Nat} {Mo Mp : List Value} {o p : Cl} {ra : Option Addr} {rc : Nat} {ga : Option Addr} {gc : Nat} (h : Ba w W r bo bp Mo Mp o p ra rc ga gc) : Rr W (rC (rpO o) ⟨ra, min o.data.length 1024, rc⟩) (rpO o) :=
  ⟨_, rfl, h.row _ (Nat.min_le_left _ _), by simp [rpO], by simp [rpO]⟩
/-- The bytes are written over. -/
theorem Ba.bytes {w W W2 : World} {r bo bp : Nat} {Mo Mp : List Value} {o p : Cl} {ra : Option Addr} {rc : Nat} {ga : Option Addr} {gc : Nat} (h : Ba w W r bo bp Mo Mp o p ra rc ga gc) {D : List Nat} (hb : But (Blk ra) W W2) (hl : D.length = o.data.length) (ho : Own W2 w.heap.size ra (o.data.length + 4) rc (D ++ [1, 2, 3, 4])) : Ba w W2 r bo bp Mo Mp { o with data := D } p ra rc ga gc := by
  obtain ⟨g, e, hg⟩ := h.mo
  refine ⟨But.below h.bl hb (fun k hk => h.ro.blk k hk), h.xo.but hb (fun e => (h.lr _ e).2.1 rfl), h.xp.but hb (fun e => (h.lr _ e).2.2 rfl), ⟨g, by rw [e]; simp [cC, hl], hg⟩, h.mp, by simpa [hl] using ho, h.gi.but hb (fun k hk e => own_apart h.ro.row h.gi (by decide) k (Blk.of.2 e) (Blk.of.2 hk)), fm6 h.o6 h.fo (by have := fm_data h.fo; omega), h.fp, h.o6, h.p9, h.ho, h.hp, Nat.le_trans h.rl hb.size, h.bs, h.lr, h.lg⟩
theorem fm9 {p : Cl} (h9 : p.op = 9) (h : fm p = true) {G : List Int} (hl : G.length ≤ 255) (hG : ∀ g ∈ G, 0 ≤ g ∧ g ≤ 65535) : fm { p with gifts := G } = true := by
  obtain ⟨op, by_, size, obj, hi, lo, given, rights, off, n, data, index, gifts⟩ := p
  simp only at h9
  subst h9
  have hg : gfB G = true := by
    simp only [gfB, Bool.and_eq_true, decide_eq_true_eq, List.all_eq_true]
    exact ⟨hl, fun g hg => wi_iff.2 (hG g hg)⟩
  simp only [fm, inB, hg, Bool.and_true]
  simp [fm, inB, wmB, unu, partsL, wo, mv, clz, blB] at h ⊢
  simp_all
  exact ⟨⟨⟨rfl, rfl⟩, rfl⟩, rfl⟩
theorem fm9_all {p : Cl} (h : fm p = true) : ∀ g ∈ p.gifts, 0 ≤ g ∧ g ≤ 65535 := by
  have := fm_inB h
  simp only [inB, gfB, Bool.and_eq_true, decide_eq_true_eq, List.all_eq_true] at this
  exact fun g hg => wi_iff.1 (this.2.2 g hg)
/-- The numbers are written over. -/
theorem Ba.ints {w W W2 : World} {r bo bp : Nat} {Mo Mp : List Value} {o p : Cl} {ra : Option Addr} {rc : Nat} {ga : Option Addr} {gc : Nat} (h : Ba w W r bo bp Mo Mp o p ra rc ga gc) {G : List Int} (hb : But (Blk ga) W W2) (hl : G.length = p.gifts.length) (hG : ∀ g ∈ G, 0 ≤ g ∧ g ≤ 65535) (ho : OI W2 w.heap.size ga (p.gifts.length + 3) gc (G ++ [901, 902, 903])) : Ba w W2 r bo bp Mo Mp o { p with gifts := G } ra rc ga gc := by
  obtain ⟨g, e, hg⟩ := h.mp
  refine ⟨But.below h.bl hb (fun k hk => h.gi.blk k hk), h.xo.but hb (fun e => (h.lg _ e).2.1 rfl), h.xp.but hb (fun e => (h.lg _ e).2.2 rfl), h.mo, ⟨g, by rw [e]; simp [cC, hl], hg⟩, h.ro.but9 hb (fun k hk e => own_apart h.ro.row h.gi (by decide) k (Blk.of.2 hk) (Blk.of.2 e)), by simpa [hl] using ho, h.fo, fm9 h.p9 h.fp (by have := fm_gifts h.fp; omega) hG, h.o6, h.p9, h.ho, h.hp, Nat.le_trans h.rl hb.size, h.bs, h.lr, h.lg⟩
/-- What a list, once made, lies in. -/
structure Lo (W : World) (lo hi : Nat) (a : Option Addr) (n c : Nat) (L : List Nat) : Prop where
  ow : Own W lo a n c L
  bk : ∀ k, Blk a k → k < hi
  le : lo ≤ hi ∧ hi ≤ W.heap.size
theorem Lo.later {W W2 : World} {lo hi : Nat} {a : Option Addr} {n c : Nat} {L : List Nat} (h : Lo W lo hi a n c L) (hb : Below W.heap.size W W2) : Lo W2 lo hi a n c L := ⟨h.ow.later hb, h.bk, h.le.1, Nat.le_trans h.le.2 hb.size⟩
theorem Lo.new {W W2 : World} {a : Option Addr} {n c : Nat} {L : List Nat} (h : Own W2 W.heap.size a n c L) (hs : W.heap.size ≤ W2.heap.size) : Lo W2 W.heap.size W2.heap.size a n c L := ⟨h, h.lt9, hs, Nat.le_refl _⟩
theorem Lo.rng {W : World} {lo hi : Nat} {a : Option Addr} {n c : Nat} {L : List Nat} (h : Lo W lo hi a n c L) : ∀ k, Blk a k → lo ≤ k ∧ k < hi := fun k hk => ⟨h.ow.blk k hk, h.bk k hk⟩
structure Li (W : World) (lo hi : Nat) (a : Option Addr) (n c : Nat) (L : List Int) : Prop where
  ow : OI W lo a n c L
  bk : ∀ k, Blk a k → k < hi
  le : lo ≤ hi ∧ hi ≤ W.heap.size
theorem Li.later {W W2 : World} {lo hi : Nat} {a : Option Addr} {n c : Nat} {L : List Int} (h : Li W lo hi a n c L) (hb : Below W.heap.size W W2) : Li W2 lo hi a n c L := ⟨h.ow.later hb, h.bk, h.le.1, Nat.le_trans h.le.2 hb.size⟩
theorem Li.but {S : Nat → Prop} {W W2 : World} {lo hi : Nat} {a : Option Addr} {n c : Nat} {L : List Int} (h : Li W lo hi a n c L) (hb : But S W W2) (hS : ∀ k, lo ≤ k → k < hi → ¬ S k) : Li W2 lo hi a n c L := ⟨h.ow.but hb (fun k hk => hS k (h.ow.blk k hk) (h.bk k hk)), h.bk, h.le.1, Nat.le_trans h.le.2 hb.size⟩
theorem Li.new {W W2 : World} {a : Option Addr} {n c : Nat} {L : List Int} (h : OI W2 W.heap.size a n c L) (hs : W.heap.size ≤ W2.heap.size) : Li W2 W.heap.size W2.heap.size a n c L := ⟨h, h.lt, hs, Nat.le_refl _⟩
theorem Li.rng {W : World} {lo hi : Nat} {a : Option Addr} {n c : Nat} {L : List Int} (h : Li W lo hi a n c L) : ∀ k, Blk a k → lo ≤ k ∧ k < hi := fun k hk => ⟨h.ow.blk k hk, h.bk k hk⟩
end Go.Proofs.Ytaffgoacbiedlaa
namespace Go.Proofs.Ytaffgoacbiedlaa
open Go.RowKit
set_option linter.unusedVariables false
set_option linter.unusedSimpArgs false

set_option maxHeartbeats 4000000 in
theorem marked7 {w : World} {a0 a1 a2 a3 a4 a5 a6 : Option Addr} {n0 c0 r0 s0 n1 c1 r1 s1 n2 c2 r2 s2 n3 c3 r3 s3 n4 c4 r4 s4 n5 c5 r5 s5 n6 c6 r6 s6 : Nat} {L0 L1 L2 L3 L4 L5 L6 : List Nat}
    (h0 : Lo w r0 s0 a0 n0 c0 L0) (h1 : Lo w r1 s1 a1 n1 c1 L1) (h2 : Lo w r2 s2 a2 n2 c2 L2) (h3 : Lo w r3 s3 a3 n3 c3 L3) (h4 : Lo w r4 s4 a4 n4 c4 L4) (h5 : Lo w r5 s5 a5 n5 c5 L5) (h6 : Lo w r6 s6 a6 n6 c6 L6) (hr : s0 ≤ r1 ∧ s1 ≤ r2 ∧ s2 ≤ r3 ∧ s3 ≤ r4 ∧ s4 ≤ r5 ∧ s5 ≤ r6) (hs : n0 ≤ 100000 ∧ n1 ≤ 100000 ∧ n2 ≤ 100000 ∧ n3 ≤ 100000 ∧ n4 ≤ 100000 ∧ n5 ≤ 100000 ∧ n6 ≤ 100000) :
    Calls Try.prog 18 #[.slice (some ⟨w.heap.size, 0, none⟩) 7 7] (w.alloc (Obj.cells #[.slice a0 n0 c0, .slice a1 n1 c1, .slice a2 n2 c2, .slice a3 n3 c3, .slice a4 n4 c4, .slice a5 n5 c5, .slice a6 n6 c6] 28)) fun e w' => e = .returned (.bool true) ∧ But (fun k => (r0 ≤ k ∧ k < s0) ∨ (r1 ≤ k ∧ k < s1) ∨ (r2 ≤ k ∧ k < s2) ∨ (r3 ≤ k ∧ k < s3) ∨ (r4 ≤ k ∧ k < s4) ∨ (r5 ≤ k ∧ k < s5) ∨ (r6 ≤ k ∧ k < s6)) (w.alloc (Obj.cells #[.slice a0 n0 c0, .slice a1 n1 c1, .slice a2 n2 c2, .slice a3 n3 c3, .slice a4 n4 c4, .slice a5 n5 c5, .slice a6 n6 c6] 28)) w' := by
  obtain ⟨q, q0, q1, q2, q3, q4, q5, q6⟩ : ∃ q : Nat → Option Addr, q 0 = a0 ∧ q 1 = a1 ∧ q 2 = a2 ∧ q 3 = a3 ∧ q 4 = a4 ∧ q 5 = a5 ∧ q 6 = a6 := ⟨fun k => match k with | 0 => a0 | 1 => a1 | 2 => a2 | 3 => a3 | 4 => a4 | 5 => a5 | _ => a6, rfl, rfl, rfl, rfl, rfl, rfl, rfl⟩
  obtain ⟨cp, cp0, cp1, cp2, cp3, cp4, cp5, cp6⟩ : ∃ q : Nat → Nat, q 0 = c0 ∧ q 1 = c1 ∧ q 2 = c2 ∧ q 3 = c3 ∧ q 4 = c4 ∧ q 5 = c5 ∧ q 6 = c6 := ⟨fun k => match k with | 0 => c0 | 1 => c1 | 2 => c2 | 3 => c3 | 4 => c4 | 5 => c5 | _ => c6, rfl, rfl, rfl, rfl, rfl, rfl, rfl⟩
  obtain ⟨rr, rr0, rr1, rr2, rr3, rr4, rr5, rr6⟩ : ∃ q : Nat → Nat, q 0 = r0 ∧ q 1 = r1 ∧ q 2 = r2 ∧ q 3 = r3 ∧ q 4 = r4 ∧ q 5 = r5 ∧ q 6 = r6 := ⟨fun k => match k with | 0 => r0 | 1 => r1 | 2 => r2 | 3 => r3 | 4 => r4 | 5 => r5 | _ => r6, rfl, rfl, rfl, rfl, rfl, rfl, rfl⟩
  obtain ⟨ss, ss0, ss1, ss2, ss3, ss4, ss5, ss6⟩ : ∃ q : Nat → Nat, q 0 = s0 ∧ q 1 = s1 ∧ q 2 = s2 ∧ q 3 = s3 ∧ q 4 = s4 ∧ q 5 = s5 ∧ q 6 = s6 := ⟨fun k => match k with | 0 => s0 | 1 => s1 | 2 => s2 | 3 => s3 | 4 => s4 | 5 => s5 | _ => s6, rfl, rfl, rfl, rfl, rfl, rfl, rfl⟩
  obtain ⟨K, K0, K1, K2, K3, K4, K5, K6⟩ : ∃ q : Nat → List Value, q 0 = u8s L0 ∧ q 1 = u8s L1 ∧ q 2 = u8s L2 ∧ q 3 = u8s L3 ∧ q 4 = u8s L4 ∧ q 5 = u8s L5 ∧ q 6 = u8s L6 := ⟨fun k => match k with | 0 => u8s L0 | 1 => u8s L1 | 2 => u8s L2 | 3 => u8s L3 | 4 => u8s L4 | 5 => u8s L5 | _ => u8s L6, rfl, rfl, rfl, rfl, rfl, rfl, rfl⟩
  obtain ⟨ln, ln0, ln1, ln2, ln3, ln4, ln5, ln6, hls⟩ : ∃ q : Nat → Nat, q 0 = n0 ∧ q 1 = n1 ∧ q 2 = n2 ∧ q 3 = n3 ∧ q 4 = n4 ∧ q 5 = n5 ∧ q 6 = n6 ∧ ∀ k, q k ≤ 100000 := ⟨fun k => match k with | 0 => n0 | 1 => n1 | 2 => n2 | 3 => n3 | 4 => n4 | 5 => n5 | _ => n6, rfl, rfl, rfl, rfl, rfl, rfl, rfl, fun k => by
    match k with
    | 0 => exact hs.1
    | 1 => exact hs.2.1
    | 2 => exact hs.2.2.1
    | 3 => exact hs.2.2.2.1
    | 4 => exact hs.2.2.2.2.1
    | 5 => exact hs.2.2.2.2.2.1
    | _ + 6 => exact hs.2.2.2.2.2.2⟩
  have all_ : ∀ (P : Nat → Prop), P 0 → P 1 → P 2 → P 3 → P 4 → P 5 → P 6 → ∀ k, k < 7 → P k := fun P p0 p1 p2 p3 p4 p5 p6 k hk => by
    rcases (show k = 0 ∨ k = 1 ∨ k = 2 ∨ k = 3 ∨ k = 4 ∨ k = 5 ∨ k = 6 by omega) with rfl | rfl | rfl | rfl | rfl | rfl | rfl
    · exact p0
    · exact p1
    · exact p2
    · exact p3
    · exact p4
    · exact p5
    · exact p6
  have hB := below1 w (Obj.cells #[.slice a0 n0 c0, .slice a1 n1 c1, .slice a2 n2 c2, .slice a3 n3 c3, .slice a4 n4 c4, .slice a5 n5 c5, .slice a6 n6 c6] 28)
  have hblk : ∀ k, k < 7 → ∀ j, Blk (q k) j → rr k ≤ j ∧ j < ss k := all_ _ (by rw [q0, rr0, ss0]; exact h0.rng) (by rw [q1, rr1, ss1]; exact h1.rng) (by rw [q2, rr2, ss2]; exact h2.rng) (by rw [q3, rr3, ss3]; exact h3.rng) (by rw [q4, rr4, ss4]; exact h4.rng) (by rw [q5, rr5, ss5]; exact h5.rng) (by rw [q6, rr6, ss6]; exact h6.rng)
  have hss : ∀ k, k < 7 → ss k ≤ w.heap.size := all_ _ (by rw [ss0]; exact h0.le.2) (by rw [ss1]; exact h1.le.2) (by rw [ss2]; exact h2.le.2) (by rw [ss3]; exact h3.le.2) (by rw [ss4]; exact h4.le.2) (by rw [ss5]; exact h5.le.2) (by rw [ss6]; exact h6.le.2)
  have hle : ∀ k, k < 7 → rr k ≤ ss k := all_ _ (by rw [rr0, ss0]; exact h0.le.1) (by rw [rr1, ss1]; exact h1.le.1) (by rw [rr2, ss2]; exact h2.le.1) (by rw [rr3, ss3]; exact h3.le.1) (by rw [rr4, ss4]; exact h4.le.1) (by rw [rr5, ss5]; exact h5.le.1) (by rw [rr6, ss6]; exact h6.le.1)
  have hst : ∀ k, k < 7 → k + 1 < 7 → ss k ≤ rr (k + 1) := all_ _ (fun _ => by show ss 0 ≤ rr 1; rw [ss0, rr1]; exact hr.1) (fun _ => by show ss 1 ≤ rr 2; rw [ss1, rr2]; exact hr.2.1) (fun _ => by show ss 2 ≤ rr 3; rw [ss2, rr3]; exact hr.2.2.1) (fun _ => by show ss 3 ≤ rr 4; rw [ss3, rr4]; exact hr.2.2.2.1) (fun _ => by show ss 4 ≤ rr 5; rw [ss4, rr5]; exact hr.2.2.2.2.1) (fun _ => by show ss 5 ≤ rr 6; rw [ss5, rr6]; exact hr.2.2.2.2.2) (fun h => absurd h (Nat.lt_irrefl _))
  have hm : ∀ a b, a < b → b < 7 → ss a ≤ rr b := by
    intro a b
    induction b with
    | zero => intro h; omega
    | succ b ih =>
      intro hab hb
      rcases Nat.lt_or_ge a b with h | h
      · have h1 := ih h (by omega)
        have h2 := hle b (by omega)
        have h3 := hst b (by omega) hb
        omega
      · obtain rfl : a = b := by omega
        exact hst a (by omega) hb
  have hM : G.B.Mk (w.alloc (Obj.cells #[.slice a0 n0 c0, .slice a1 n1 c1, .slice a2 n2 c2, .slice a3 n3 c3, .slice a4 n4 c4, .slice a5 n5 c5, .slice a6 n6 c6] 28)) w.heap.size q cp ln K := by
    refine ⟨all_ _ (by rw [q0, ln0, cp0]; simp [go_sem]) (by rw [q1, ln1, cp1]; simp [go_sem]) (by rw [q2, ln2, cp2]; simp [go_sem]) (by rw [q3, ln3, cp3]; simp [go_sem]) (by rw [q4, ln4, cp4]; simp [go_sem]) (by rw [q5, ln5, cp5]; simp [go_sem]) (by rw [q6, ln6, cp6]; simp [go_sem]),
      all_ _ (by rw [q0, ln0, cp0, K0]; exact G.Ow.mono (G.Ow.later (show G.Ow w r0 5 1 a0 n0 c0 (u8s L0) from h0.ow.row) hB) (Nat.zero_le _)) (by rw [q1, ln1, cp1, K1]; exact G.Ow.mono (G.Ow.later (show G.Ow w r1 5 1 a1 n1 c1 (u8s L1) from h1.ow.row) hB) (Nat.zero_le _)) (by rw [q2, ln2, cp2, K2]; exact G.Ow.mono (G.Ow.later (show G.Ow w r2 5 1 a2 n2 c2 (u8s L2) from h2.ow.row) hB) (Nat.zero_le _)) (by rw [q3, ln3, cp3, K3]; exact G.Ow.mono (G.Ow.later (show G.Ow w r3 5 1 a3 n3 c3 (u8s L3) from h3.ow.row) hB) (Nat.zero_le _)) (by rw [q4, ln4, cp4, K4]; exact G.Ow.mono (G.Ow.later (show G.Ow w r4 5 1 a4 n4 c4 (u8s L4) from h4.ow.row) hB) (Nat.zero_le _)) (by rw [q5, ln5, cp5, K5]; exact G.Ow.mono (G.Ow.later (show G.Ow w r5 5 1 a5 n5 c5 (u8s L5) from h5.ow.row) hB) (Nat.zero_le _)) (by rw [q6, ln6, cp6, K6]; exact G.Ow.mono (G.Ow.later (show G.Ow w r6 5 1 a6 n6 c6 (u8s L6) from h6.ow.row) hB) (Nat.zero_le _)),
      all_ _ (by rw [K0, ln0, u8s_length]; exact h0.ow.len) (by rw [K1, ln1, u8s_length]; exact h1.ow.len) (by rw [K2, ln2, u8s_length]; exact h2.ow.len) (by rw [K3, ln3, u8s_length]; exact h3.ow.len) (by rw [K4, ln4, u8s_length]; exact h4.ow.len) (by rw [K5, ln5, u8s_length]; exact h5.ow.len) (by rw [K6, ln6, u8s_length]; exact h6.ow.len), fun a b j ha hb hne h1 h2 => ?_, fun k hk e => ?_, hls⟩
    · have p1 := hblk a ha j h1
      have p2 := hblk b hb j h2
      rcases Nat.lt_or_ge a b with h | h
      · have := hm a b h hb; omega
      · have := hm b a (by omega) ha; omega
    · have p1 := hblk k hk _ e
      have p2 := hss k hk
      omega
  refine (G.B.mark_any 7 hM).mono ?_
  rintro e w' ⟨rfl, hb⟩
  refine ⟨rfl, hb.mono (fun j hj => ?_)⟩
  obtain ⟨k, hk, hkj⟩ := hj
  have hq := hblk k hk j hkj
  rcases (show k = 0 ∨ k = 1 ∨ k = 2 ∨ k = 3 ∨ k = 4 ∨ k = 5 ∨ k = 6 by omega) with rfl | rfl | rfl | rfl | rfl | rfl | rfl
  · rw [rr0, ss0] at hq; exact Or.inl hq
  · rw [rr1, ss1] at hq; exact Or.inr (Or.inl hq)
  · rw [rr2, ss2] at hq; exact Or.inr (Or.inr (Or.inl hq))
  · rw [rr3, ss3] at hq; exact Or.inr (Or.inr (Or.inr (Or.inl hq)))
  · rw [rr4, ss4] at hq; exact Or.inr (Or.inr (Or.inr (Or.inr (Or.inl hq))))
  · rw [rr5, ss5] at hq; exact Or.inr (Or.inr (Or.inr (Or.inr (Or.inr (Or.inl hq)))))
  · rw [rr6, ss6] at hq; exact Or.inr (Or.inr (Or.inr (Or.inr (Or.inr (Or.inr (hq))))))
set_option maxHeartbeats 4000000 in
theorem marked2 {w : World} {a0 a1 : Option Addr} {n0 c0 r0 s0 n1 c1 r1 s1 : Nat} {L0 L1 : List Int}
    (h0 : Li w r0 s0 a0 n0 c0 L0) (h1 : Li w r1 s1 a1 n1 c1 L1) (hr : s0 ≤ r1) (hs : n0 ≤ 100000 ∧ n1 ≤ 100000) :
    Calls Try.prog 19 #[.slice (some ⟨w.heap.size, 0, none⟩) 2 2] (w.alloc (Obj.cells #[.slice a0 n0 c0, .slice a1 n1 c1] 39)) fun e w' => e = .returned (.bool true) ∧ But (fun k => (r0 ≤ k ∧ k < s0) ∨ (r1 ≤ k ∧ k < s1)) (w.alloc (Obj.cells #[.slice a0 n0 c0, .slice a1 n1 c1] 39)) w' := by
  obtain ⟨q, q0, q1⟩ : ∃ q : Nat → Option Addr, q 0 = a0 ∧ q 1 = a1 := ⟨fun k => match k with | 0 => a0 | _ => a1, rfl, rfl⟩
  obtain ⟨cp, cp0, cp1⟩ : ∃ q : Nat → Nat, q 0 = c0 ∧ q 1 = c1 := ⟨fun k => match k with | 0 => c0 | _ => c1, rfl, rfl⟩
  obtain ⟨rr, rr0, rr1⟩ : ∃ q : Nat → Nat, q 0 = r0 ∧ q 1 = r1 := ⟨fun k => match k with | 0 => r0 | _ => r1, rfl, rfl⟩
  obtain ⟨ss, ss0, ss1⟩ : ∃ q : Nat → Nat, q 0 = s0 ∧ q 1 = s1 := ⟨fun k => match k with | 0 => s0 | _ => s1, rfl, rfl⟩
  obtain ⟨K, K0, K1⟩ : ∃ q : Nat → List Value, q 0 = i64s L0 ∧ q 1 = i64s L1 := ⟨fun k => match k with | 0 => i64s L0 | _ => i64s L1, rfl, rfl⟩
  obtain ⟨ln, ln0, ln1, hls⟩ : ∃ q : Nat → Nat, q 0 = n0 ∧ q 1 = n1 ∧ ∀ k, q k ≤ 100000 := ⟨fun k => match k with | 0 => n0 | _ => n1, rfl, rfl, fun k => by
    match k with
    | 0 => exact hs.1
    | _ + 1 => exact hs.2⟩
  have all_ : ∀ (P : Nat → Prop), P 0 → P 1 → ∀ k, k < 2 → P k := fun P p0 p1 k hk => by
    rcases (show k = 0 ∨ k = 1 by omega) with rfl | rfl
    · exact p0
    · exact p1
  have hB := below1 w (Obj.cells #[.slice a0 n0 c0, .slice a1 n1 c1] 39)
  have hblk : ∀ k, k < 2 → ∀ j, Blk (q k) j → rr k ≤ j ∧ j < ss k := all_ _ (by rw [q0, rr0, ss0]; exact h0.rng) (by rw [q1, rr1, ss1]; exact h1.rng)
  have hss : ∀ k, k < 2 → ss k ≤ w.heap.size := all_ _ (by rw [ss0]; exact h0.le.2) (by rw [ss1]; exact h1.le.2)
  have hle : ∀ k, k < 2 → rr k ≤ ss k := all_ _ (by rw [rr0, ss0]; exact h0.le.1) (by rw [rr1, ss1]; exact h1.le.1)
  have hst : ∀ k, k < 2 → k + 1 < 2 → ss k ≤ rr (k + 1) := all_ _ (fun _ => by show ss 0 ≤ rr 1; rw [ss0, rr1]; exact hr) (fun h => absurd h (Nat.lt_irrefl _))
  have hm : ∀ a b, a < b → b < 2 → ss a ≤ rr b := by
    intro a b
    induction b with
    | zero => intro h; omega
    | succ b ih =>
      intro hab hb
      rcases Nat.lt_or_ge a b with h | h
      · have h1 := ih h (by omega)
        have h2 := hle b (by omega)
        have h3 := hst b (by omega) hb
        omega
      · obtain rfl : a = b := by omega
        exact hst a (by omega) hb
  have hM : G.I.Mk (w.alloc (Obj.cells #[.slice a0 n0 c0, .slice a1 n1 c1] 39)) w.heap.size q cp ln K := by
    refine ⟨all_ _ (by rw [q0, ln0, cp0]; simp [go_sem]) (by rw [q1, ln1, cp1]; simp [go_sem]),
      all_ _ (by rw [q0, ln0, cp0, K0]; exact G.Ow.mono (G.Ow.later (show G.Ow w r0 3 1 a0 n0 c0 (i64s L0) from h0.ow) hB) (Nat.zero_le _)) (by rw [q1, ln1, cp1, K1]; exact G.Ow.mono (G.Ow.later (show G.Ow w r1 3 1 a1 n1 c1 (i64s L1) from h1.ow) hB) (Nat.zero_le _)),
      all_ _ (by rw [K0, ln0, i64s_length]; exact h0.ow.len) (by rw [K1, ln1, i64s_length]; exact h1.ow.len), fun a b j ha hb hne h1 h2 => ?_, fun k hk e => ?_, hls⟩
    · have p1 := hblk a ha j h1
      have p2 := hblk b hb j h2
      rcases Nat.lt_or_ge a b with h | h
      · have := hm a b h hb; omega
      · have := hm b a (by omega) ha; omega
    · have p1 := hblk k hk _ e
      have p2 := hss k hk
      omega
  refine (G.I.mark_any 2 hM).mono ?_
  rintro e w' ⟨rfl, hb⟩
  refine ⟨rfl, hb.mono (fun j hj => ?_)⟩
  obtain ⟨k, hk, hkj⟩ := hj
  have hq := hblk k hk j hkj
  rcases (show k = 0 ∨ k = 1 by omega) with rfl | rfl
  · rw [rr0, ss0] at hq; exact Or.inl hq
  · rw [rr1, ss1] at hq; exact Or.inr (hq)
end Go.Proofs.Ytaffgoacbiedlaa
