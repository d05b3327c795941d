import Derived.Test.YthlojdclncikiaaA1
namespace Go.Proofs.Ythlojdclncikiaa
open Go.RowKit
set_option linter.unusedVariables false

abbrev Cp := Int × Nat × Nat
/-! ### Rows whose elements take k cells -/
structure Cr (w : World) (k : Nat) (b : Option Addr) (m c : Nat) (M : List Value) : Prop where
  len : M.length = m * k
  none_ : b = none → m = 0 ∧ c = 0
  cells : ∀ x, b = some x → ∀ j u, M[j]? = some u → w.cell? (x.add j) = some u
  one : ∀ u ∈ M, u.oneCell' = true
theorem append_k (t e : TypeId) (z : Value) (k by_ : Nat) (ht : Try.prog.underlying t = some (.slice e)) (hinf : (Try.prog.info? e).map (fun i => (i.zero, i.size, i.bytes)) = some (some z, k, by_)) (hzs : z.cells.size = k) (hk : 0 < k) (hby : 0 < by_)
    {w : World} {base : Nat} {a : Option Addr} {n cap : Nat} {L : List Value} {b : Option Addr} {m c : Nat} {M : List Value} (h : w.ownsRow base e k (.slice a n cap) n L) (r : Cr w k b m c M) (hb : base ≤ w.heap.size) (hr : (n + m) * by_ ≤ 140737488355328) :
    ∃ a' cap' w', (Builtin.append_ #[t, t] t #[.slice a n cap, .slice b m c]).run Try.prog w = .ok (.slice a' (n + m) cap') w' ∧ w'.ownsRow base e k (.slice a' (n + m) cap') (n + m) (L ++ M) ∧ Gr a a' w w' := by
  obtain ⟨i, hi, hz0, hz1, hz2⟩ := info_parts hinf
  have hnm : n + m ≤ 140737488355328 := Nat.le_trans (Nat.le_mul_of_pos_right _ hby) hr
  cases b with
  | none =>
    obtain ⟨rfl, rfl⟩ := r.none_ rfl
    have hM : M = [] := List.eq_nil_of_length_eq_zero (by have := r.len; omega)
    subst hM
    have hr := run_append_owned_none (P := Try.prog) (w := w) base t t e i k ht hi _ n _ h
    exact ⟨a, cap, w, hr, by simpa using h, Gr.refl _ _⟩
  | some x =>
    obtain ⟨v', w', hr, h2, h3, _, h5⟩ := run_append_own_at (P := Try.prog) w base t t e i _ k by_ ht hi hz0 hz1 hz2 hzs hk _ n _ h x m c M r.len (r.cells x rfl) r.one (by unfold maxLen; omega) hr hb
    obtain ⟨a', cap', rfl⟩ : ∃ a' cap', v' = .slice a' (n + m) cap' := by
      rcases h2.2 with ⟨h, h'⟩ | ⟨g', cap', _, h, _⟩
      · exact ⟨.none, 0, by rw [h, h']⟩
      · exact ⟨_, cap', h⟩
    refine ⟨a', cap', w', hr, h2, ⟨h3.os, h3.tape, h3.output, h3.size, fun j hj hn => h3.block j hj (fun e => hn (Blk.of.1 e.symm))⟩, fun j hj => ?_⟩
    rcases h5 with h5 | h5
    · rw [Blk.of.2 hj] at h5
      exact .inl (Blk.of.1 h5.symm)
    · rw [Blk.of.2 hj] at h5
      right
      simp at h5
      omega
/-- The one element of a literal. -/
theorem Cr.lit (w : World) (e : TypeId) (M : List Value) (h1 : ∀ u ∈ M, u.oneCell' = true) : Cr (w.alloc (Obj.cells M.toArray e)) M.length (some ⟨w.heap.size, 0, none⟩) 1 1 M :=
  ⟨by simp, fun h => (by cases h), fun x hx j u hu => by
    cases hx
    rw [addr_add0]
    simp only [World.cell?, World.alloc, Array.getElem?_push_size]
    simpa using hu, h1⟩
/-- A row of k cells an element, in memory of its own. -/
def Ow (w : World) (base : Nat) (e : TypeId) (k : Nat) (a : Option Addr) (n cap : Nat) (L : List Value) : Prop := w.ownsRow base e k (.slice a n cap) n L
theorem Ow.but {S : Nat → Prop} {w w' : World} {base : Nat} {e : TypeId} {k : Nat} {a : Option Addr} {n cap : Nat} {L : List Value} (h : Ow w base e k a n cap L) (hb : But S w w') (hn : ∀ j, Blk a j → ¬ S j) : Ow w' base e k a n cap L := own_but hb h (fun j hj => hn j (Blk.of.1 hj))
theorem Ow.later {w w' : World} {base : Nat} {e : TypeId} {k : Nat} {a : Option Addr} {n cap : Nat} {L : List Value} (h : Ow w base e k a n cap L) (hb : Below w.heap.size w w') : Ow w' base e k a n cap L := h.but (S := fun _ => False) (But.of hb) (fun _ _ h => h)
theorem Ow.mono {w : World} {base b : Nat} {e : TypeId} {k : Nat} {a : Option Addr} {n cap : Nat} {L : List Value} (h : Ow w base e k a n cap L) (hb : b ≤ base) : Ow w b e k a n cap L := own_mono h hb
theorem Ow.blk {w : World} {base : Nat} {e : TypeId} {k : Nat} {a : Option Addr} {n cap : Nat} {L : List Value} (h : Ow w base e k a n cap L) : ∀ j, Blk a j → base ≤ j ∧ j < w.heap.size := fun j hj => own_block h j (Blk.of.2 hj)
theorem Ow.nil (w : World) (base : Nat) (e : TypeId) (k : Nat) : Ow w base e k none 0 0 [] := ⟨by simp, .inl ⟨rfl, rfl⟩⟩
theorem Ow.cells {w : World} {base : Nat} {e : TypeId} {k : Nat} {a : Option Addr} {n cap : Nat} {L : List Value} (h : Ow w base e k a n cap L) {j : Nat} (hj : Blk a j) : ∃ cs t z, w.heap[j]? = some (.cells cs t z) := by
  rcases h.2 with ⟨h1, _⟩ | ⟨g, c, cur, hv, hg, hh, r⟩
  · simp only [Value.slice.injEq] at h1
    obtain ⟨x, hx, _⟩ := hj
    rw [h1.1] at hx
    cases hx
  · simp only [Value.slice.injEq] at hv
    obtain ⟨x, hx, rfl⟩ := hj
    rw [hv.1] at hx
    cases hx
    exact ⟨_, _, _, hh⟩
/-- Capabilities in a row. -/
def encC (x : Cp) : List Value := [.int .i64 x.1, .int .u64 (x.2.1 : Int), .int .u64 (x.2.2 : Int)]
def caps (K : List Cp) : List Value := K.flatMap encC
theorem encC_one (x : Cp) : ∀ v ∈ encC x, v.oneCell' = true := by
  intro v hv
  simp only [encC, List.mem_cons, List.not_mem_nil, or_false] at hv
  rcases hv with rfl | rfl | rfl <;> rfl
theorem caps_snoc (K : List Cp) (x : Cp) : caps (K ++ [x]) = caps K ++ encC x := by simp [caps]
theorem info34 : (Try.prog.info? 34).map (fun i => (i.zero, i.size, i.bytes)) = some (some (.agg #[.int .i64 0, .int .u64 0, .int .u64 0]), 3, 24) := by kernel_rfl
/-- A capability's three cells. -/
structure Cel (w : World) (b o : Nat) (c : Cp) : Prop where
  c0 : w.cell? ⟨b, o, none⟩ = some (.int .i64 c.1)
  c1 : w.cell? ⟨b, o + 1, none⟩ = some (.int .u64 (c.2.1 : Int))
  c2 : w.cell? ⟨b, o + 2, none⟩ = some (.int .u64 (c.2.2 : Int))
theorem Cel.but {S : Nat → Prop} {w w' : World} {b o : Nat} {c : Cp} (hb : But S w w') (h : Cel w b o c) (hn : ¬ S b) : Cel w' b o c := ⟨cell_but hb h.c0 hn, cell_but hb h.c1 hn, cell_but hb h.c2 hn⟩
theorem Cel.later {w w' : World} {b o : Nat} {c : Cp} (h : Cel w b o c) (hb : Below w.heap.size w w') : Cel w' b o c := h.but (S := fun _ => False) (But.of hb) (fun h => h)
/-- What a list of capabilities reads. -/
structure Rd (w : World) (a : Option Addr) (n : Nat) (K : List Cp) : Prop where
  len : K.length = n
  at_ : 0 < n → ∃ b o, a = some ⟨b, o, none⟩ ∧ ∀ (i : Nat) (c : Cp), K[i]? = some c → Cel w b (o + i * 3) c
theorem Rd.but {S : Nat → Prop} {w w' : World} {a : Option Addr} {n : Nat} {K : List Cp} (h : Rd w a n K) (hb : But S w w') (hn : ∀ k, Blk a k → ¬ S k) : Rd w' a n K :=
  ⟨h.len, fun h0 => by
    obtain ⟨b, o, e, hc⟩ := h.at_ h0
    exact ⟨b, o, e, fun i c hi => (hc i c hi).but hb (hn b ⟨_, e, rfl⟩)⟩⟩
theorem Rd.later {w w' : World} {a : Option Addr} {n : Nat} {K : List Cp} (h : Rd w a n K) (hb : Below w.heap.size w w') : Rd w' a n K := h.but (S := fun _ => False) (But.of hb) (fun _ _ h => h)
theorem cls_get {α : Type} {enc : α → List Value} {k : Nat} (hk : ∀ x, (enc x).length = k) (K : List α) (i c : Nat) (x : α) (hi : K[i]? = some x) (hc : c < k) : (K.flatMap enc)[i * k + c]? = (enc x)[c]? := by
  induction K generalizing i with
  | nil => cases hi
  | cons a r ih =>
    rw [List.flatMap_cons]
    cases i with
    | zero =>
      simp at hi
      subst hi
      rw [Nat.zero_mul, Nat.zero_add, List.getElem?_append_left (by rw [hk]; exact hc)]
    | succ i =>
      rw [List.getElem?_append_right (by rw [hk, Nat.add_mul]; omega), hk]
      have : (i + 1) * k + c - k = i * k + c := by rw [Nat.add_mul]; omega
      rw [this]
      exact ih i (by simpa using hi)
theorem Ow.at_ {w : World} {base : Nat} {e : TypeId} {k : Nat} {a : Option Addr} {n cap : Nat} {L : List Value} (h : Ow w base e k a n cap L) (hn : 0 < n) : ∃ b, a = some ⟨b, 0, none⟩ ∧ ∀ j u, L[j]? = some u → w.cell? ⟨b, j, none⟩ = some u := by
  rcases h.2 with ⟨_, h1⟩ | ⟨g, c, cur, hv, _⟩
  · omega
  · simp only [Value.slice.injEq] at hv
    refine ⟨g, hv.1, fun j u hu => ?_⟩
    have h' := h
    rw [Ow, hv.1] at h'
    have := World.ownsRow.cells (g := g) h' rfl j u hu
    rwa [addr_add0] at this
theorem Ow.rd {w : World} {base : Nat} {a : Option Addr} {n cap : Nat} {K : List Cp} (h : Ow w base 34 3 a n cap (caps K)) (hn : K.length = n) : Rd w a n K :=
  ⟨hn, fun h0 => by
    obtain ⟨b, e, hc⟩ := h.at_ h0
    refine ⟨b, 0, e, fun i c hi => ?_⟩
    have hg := fun d (hd : d < 3) => cls_get (enc := encC) (k := 3) (fun _ => rfl) K i d c hi hd
    rw [Nat.zero_add]
    exact ⟨hc _ _ (hg 0 (by omega)), hc _ _ (hg 1 (by omega)), hc _ _ (hg 2 (by omega))⟩⟩
theorem rd_nil (w : World) : Rd w none 0 [] := ⟨rfl, fun h => by omega⟩
/-- Are they the same? -/
def cEq (a b c d e f : Int) : Bool := decide (a = d ∧ b = e ∧ c = f)
theorem eqlC (a b c d e f : Int) (w : World) : (binOp .eql 34 (.agg #[.int .i64 a, .int .u64 b, .int .u64 c]) (.agg #[.int .i64 d, .int .u64 e, .int .u64 f])).run Try.prog w = .ok (.bool (cEq a b c d e f)) w := by
  unfold cEq
  by_cases h1 : a = d
  · subst h1
    by_cases h2 : b = e
    · subst h2
      by_cases h3 : c = f
      · subst h3; simp [go_sem]
      · simp [go_sem, h3]
    · simp [go_sem, h2]
  · simp [go_sem, h1]
theorem neqC (a b c d e f : Int) (w : World) : (binOp .neq 34 (.agg #[.int .i64 a, .int .u64 b, .int .u64 c]) (.agg #[.int .i64 d, .int .u64 e, .int .u64 f])).run Try.prog w = .ok (.bool (!cEq a b c d e f)) w := by
  unfold cEq
  by_cases h1 : a = d
  · subst h1
    by_cases h2 : b = e
    · subst h2
      by_cases h3 : c = f
      · subst h3; simp [go_sem]
      · simp [go_sem, h3]
    · simp [go_sem, h2]
  · simp [go_sem, h1]
/-! ### Lists that are lengthened -/
theorem Ow.form {w : World} {base : Nat} {e : TypeId} {k : Nat} {a : Option Addr} {n cap : Nat} {L : List Value} (h : Ow w base e k a n cap L) : (a = none ∧ n = 0 ∧ cap = 0) ∨ ∃ g, a = some ⟨g, 0, none⟩ ∧ (∀ j, w.frozen? ⟨g, j, none⟩ = false) ∧ n ≤ cap := by
  rcases h.2 with ⟨h1, h2⟩ | ⟨g, c, cur, hv, _, hh, hc, _⟩
  · simp only [Value.slice.injEq] at h1
    exact .inl ⟨h1.1, h2, h1.2.2⟩
  · simp only [Value.slice.injEq] at hv
    obtain ⟨rfl, _, rfl⟩ := hv
    exact .inr ⟨g, rfl, fun j => by simp [World.frozen?, hh], hc⟩
theorem Ow.cr {w : World} {base : Nat} {e : TypeId} {k : Nat} {a : Option Addr} {n cap : Nat} {L : List Value} (h : Ow w base e k a n cap L) (h1 : ∀ u ∈ L, u.oneCell' = true) : Cr w k a n cap L := by
  refine ⟨h.1, fun e => ?_, fun x hx j u hu => ?_, h1⟩
  · rcases h.form with ⟨_, h2⟩ | ⟨g, h2, _⟩
    · exact h2
    · rw [e] at h2; cases h2
  · rcases h.form with ⟨h2, _⟩ | ⟨g, h2, _⟩
    · rw [hx] at h2; cases h2
    · by_cases hn : 0 < n
      · obtain ⟨b, hb, hc⟩ := h.at_ hn
        rw [hb] at hx
        cases hx
        rw [addr_add0]
        exact hc j u hu
      · have hl := h.1
        have h0 : n = 0 := by omega
        rw [h0, Nat.zero_mul] at hl
        rw [List.eq_nil_of_length_eq_zero hl] at hu
        cases hu
theorem Ow.set1 {w : World} {base : Nat} {e : TypeId} {k g n cap : Nat} {L : List Value} (h : Ow w base e k (some ⟨g, 0, none⟩) n cap L) (j : Nat) (u : Value) : Ow (w.setCell ⟨g, j, none⟩ u) base e k (some ⟨g, 0, none⟩) n cap (L.set j u) := (World.ownsRow.stored h j u).1
/-- An empty literal. -/
theorem Ow.empty (w : World) (e : TypeId) (k : Nat) : Ow (w.alloc (Obj.cells #[] e)) w.heap.size e k (some ⟨w.heap.size, 0, none⟩) 0 0 [] :=
  ⟨by simp, .inr ⟨w.heap.size, 0, #[], rfl, Nat.le_refl _, heap_alloc_new w _, Nat.le_refl _, Nat.zero_le _, by simp, by simp⟩⟩
/-- What a list reads, cell by cell. -/
def Rv (w : World) (a : Option Addr) (L : List Value) : Prop := ∀ g, a = some ⟨g, 0, none⟩ → ∀ j u, L[j]? = some u → w.cell? ⟨g, j, none⟩ = some u
theorem Rv.but {S : Nat → Prop} {w w' : World} {a : Option Addr} {L : List Value} (h : Rv w a L) (hb : But S w w') (hn : ∀ j, Blk a j → ¬ S j) : Rv w' a L := fun g e j u hu => cell_but hb (h g e j u hu) (hn g ⟨_, e, rfl⟩)
theorem Rv.later {w w' : World} {a : Option Addr} {L : List Value} (h : Rv w a L) (hb : Below w.heap.size w w') : Rv w' a L := h.but (S := fun _ => False) (But.of hb) (fun _ _ h => h)
theorem Ow.rv {w : World} {base : Nat} {e : TypeId} {k : Nat} {a : Option Addr} {n cap : Nat} {L : List Value} (h : Ow w base e k a n cap L) : Rv w a L := fun g e j u hu => by
  by_cases hn : 0 < n
  · obtain ⟨b, hb, hc⟩ := h.at_ hn
    rw [hb] at e
    cases e
    exact hc j u hu
  · have hl := h.1
    have h0 : n = 0 := by omega
    rw [h0, Nat.zero_mul] at hl
    rw [List.eq_nil_of_length_eq_zero hl] at hu
    cases hu
theorem Rv.pre {w : World} {a : Option Addr} {L T : List Value} (h : Rv w a (L ++ T)) : Rv w a L := fun g e j u hu => h g e j u (by rw [List.getElem?_append_left (List.getElem?_eq_some_iff.1 hu).1]; exact hu)
set_option maxRecDepth 10000 in
theorem append_keep (t e : TypeId) (z : Value) (k by_ : Nat) (ht : Try.prog.underlying t = some (.slice e)) (hinf : (Try.prog.info? e).map (fun i => (i.zero, i.size, i.bytes)) = some (some z, k, by_)) (hzs : z.cells.size = k) (hk : 0 < k) (hby : 0 < by_)
    {w : World} {base : Nat} {a : Option Addr} {n cap : Nat} {L : List Value} {x : Addr} {m c : Nat} {M : List Value} (h : Ow w base e k a n cap L) (r : Cr w k (some x) m c M) (hm : 0 < m) (hb : base ≤ w.heap.size) (hr : (n + m) * by_ ≤ 140737488355328) :
    ∃ a' cap' w', (Builtin.append_ #[t, t] t #[.slice a n cap, .slice (some x) m c]).run Try.prog w = .ok (.slice a' (n + m) cap') w' ∧ Ow w' base e k a' (n + m) cap' (L ++ M) ∧ Gr a a' w w' ∧ ((a' = a ∧ cap' = cap) ∨ (Below w.heap.size w w' ∧ ∀ j, Blk a' j → w.heap.size ≤ j)) := by
  have hnm : n + m ≤ 140737488355328 := Nat.le_trans (Nat.le_mul_of_pos_right _ hby) hr
  rcases h.form with ⟨rfl, rfl, rfl⟩ | ⟨g, rfl, _, hnc⟩
  · obtain ⟨a', cap', w', hrun, hO, hG⟩ := append_k t e z k by_ ht hinf hzs hk hby h r hb hr
    refine ⟨a', cap', w', hrun, hO, hG, .inr ⟨⟨hG.but.os, hG.but.tape, hG.but.output, hG.but.size, fun j hj => hG.but.block j hj (fun e => by obtain ⟨_, e, _⟩ := e; cases e)⟩, fun j hj => ?_⟩⟩
    rcases hG.on j hj with e | e
    · obtain ⟨_, e, _⟩ := e; cases e
    · exact e
  · obtain ⟨i, hi, hz0, hz1, hz2⟩ := info_parts hinf
    by_cases hfit : n + m ≤ cap
    · obtain ⟨w', hrun, hO, hg⟩ := run_append_fits (P := Try.prog) w base t t e i k ht hi hz1 g n cap _ h x m c M r.len (r.cells x rfl) r.one hfit
      exact ⟨_, cap, w', hrun, hO, ⟨⟨hg.os, hg.tape, hg.output, hg.size, fun j hj hn => hg.block j hj (fun e => hn ⟨_, rfl, by simpa using e.symm⟩)⟩, fun j hj => .inl hj⟩, .inl ⟨rfl, rfl⟩⟩
    · have hl : L.length = n * k := h.1
      have hlm := r.len
      have hrun := run_append_grow (P := Try.prog) w t t e i _ ht hi hz0 ⟨g, 0, none⟩ n cap L (by rw [hz1]; exact hl) (fun j u hu => by rw [addr_add0]; exact h.rv g rfl j u hu) x m c M (by rw [hz1]; exact hlm) (r.cells x rfl) (by omega) (by omega) (growslice_fits (by omega) (by rw [hz2]; omega))
      have hB : Below w.heap.size w (w.drew.alloc (.cells (L.toArray ++ M.toArray ++ Builtin.zeroCells z.cells (grownCap w (n + m) cap e - (n + m))) e)) := ((Below.refl _ _).drew).alloc (by simp) _
      have hge : ∀ j, Blk (some ⟨w.heap.size, 0, none⟩) j → w.heap.size ≤ j := fun j hj => by
        obtain ⟨y, ey, rfl⟩ := hj
        cases ey
        exact Nat.le_refl _
      have hgc := grownCap_ge w (n + m) cap e
      refine ⟨_, _, _, hrun, ⟨by rw [List.length_append, hl, hlm, Nat.add_mul], .inr ⟨w.heap.size, _, _, rfl, hb, heap_alloc_new w.drew _, hgc, grownCap_le_maxLen _ _ _ _ (by unfold maxLen; omega), ?_, ?_⟩⟩, ⟨But.of hB, fun j hj => .inr (hge j hj)⟩, .inr ⟨hB, hge⟩⟩
      · simp only [Array.size_append, List.size_toArray, size_zeroCells, hl, hlm, hzs]
        rw [← Nat.add_mul, ← Nat.add_mul, Nat.add_sub_of_le hgc]
      · rw [Array.toList_append, Array.toList_append]
        exact List.take_left' (by simp [hl, hlm, Nat.add_mul])
/-- A list that is lengthened, and what it was. -/
structure Lz (w0 w : World) (base : Nat) (e : TypeId) (k : Nat) (a0 : Option Addr) (c0 : Nat) (L0 : List Value) (b : Option Addr) (c n : Nat) (L : List Value) : Prop where
  ow : Ow w base e k b n c L
  sh : (b = a0 ∧ c = c0) ∨ ∀ j, Blk b j → w0.heap.size ≤ j
  rv : Rv w a0 L0
  pre : ∃ T, L = L0 ++ T
  gr : Gr a0 b w0 w
  lt : ∀ j, Blk a0 j → j < w0.heap.size
theorem Lz.start {w : World} {base : Nat} {e : TypeId} {k : Nat} {a : Option Addr} {c n : Nat} {L : List Value} (h : Ow w base e k a n c L) : Lz w w base e k a c L a c n L :=
  ⟨h, .inl ⟨rfl, rfl⟩, h.rv, ⟨[], by simp⟩, Gr.refl _ _, fun j hj => (h.blk j hj).2⟩
theorem Lz.app (t e : TypeId) (z : Value) (k by_ : Nat) (ht : Try.prog.underlying t = some (.slice e)) (hinf : (Try.prog.info? e).map (fun i => (i.zero, i.size, i.bytes)) = some (some z, k, by_)) (hzs : z.cells.size = k) (hk : 0 < k) (hby : 0 < by_)
    {w0 w w1 : World} {base : Nat} {a0 : Option Addr} {c0 : Nat} {L0 : List Value} {b : Option Addr} {c n : Nat} {L : List Value} (h : Lz w0 w base e k a0 c0 L0 b c n L) (hl : Below w.heap.size w w1) {x : Addr} {m d : Nat} {M : List Value} (r : Cr w1 k (some x) m d M) (hm : 0 < m) (hb : base ≤ w.heap.size) (hr : (n + m) * by_ ≤ 140737488355328) :
    ∃ a' cap' w', (Builtin.append_ #[t, t] t #[.slice b n c, .slice (some x) m d]).run Try.prog w1 = .ok (.slice a' (n + m) cap') w' ∧ Lz w0 w' base e k a0 c0 L0 a' cap' (n + m) (L ++ M) := by
  obtain ⟨a', cap', w', hrun, hO, hG, hs⟩ := append_keep t e z k by_ ht hinf hzs hk hby (h.ow.later hl) r hm (Nat.le_trans hb hl.size) hr
  have hG2 := hG.pre hl
  have hsz := h.gr.but.size
  obtain ⟨T, hT⟩ := h.pre
  refine ⟨a', cap', w', hrun, hO, ?_, ?_, ⟨T ++ M, by rw [hT, List.append_assoc]⟩, h.gr.trans hG2, h.lt⟩
  · rcases hs with ⟨rfl, rfl⟩ | ⟨_, hge⟩
    · exact h.sh
    · exact .inr (fun j hj => Nat.le_trans hsz (Nat.le_trans hl.size (hge j hj)))
  · rcases hs with ⟨rfl, rfl⟩ | ⟨hB, _⟩
    · rcases h.sh with ⟨rfl, _⟩ | hge
      · have := hO.rv
        rw [hT, List.append_assoc] at this
        exact this.pre
      · exact h.rv.but hG2.but (fun j hj hj2 => by have := h.lt j hj; have := hge j hj2; omega)
    · exact (h.rv.later hl).later hB
/-! ### Writing an element -/
theorem caps_set : ∀ (K : List Cp) (i : Nat) (c : Cp), caps (K.set i c) = (((caps K).set (i * 3) (.int .i64 c.1)).set (i * 3 + 1) (.int .u64 (c.2.1 : Int))).set (i * 3 + 2) (.int .u64 (c.2.2 : Int))
  | [], i, c => by simp [caps]
  | x :: K, 0, c => by simp [caps, encC]
  | x :: K, i + 1, c => by
    have ih := caps_set K i c
    have e : (i + 1) * 3 = i * 3 + 1 + 1 + 1 := by omega
    unfold caps at ih ⊢
    simp only [List.set_cons_succ, List.flatMap_cons, encC, List.cons_append, List.nil_append, e]
    rw [ih]
def setC (w : World) (b o : Nat) (c : Cp) : World := ((w.setCell ⟨b, o, none⟩ (.int .i64 c.1)).setCell ⟨b, o + 1, none⟩ (.int .u64 (c.2.1 : Int))).setCell ⟨b, o + 2, none⟩ (.int .u64 (c.2.2 : Int))
theorem setC_but {S : Nat → Prop} {a w : World} (h : But S a w) {b : Nat} (hb : S b) (o : Nat) (c : Cp) : But S a (setC w b o c) :=
  ((h.setCell (p := ⟨b, o, none⟩) hb _).setCell (p := ⟨b, o + 1, none⟩) hb _).setCell (p := ⟨b, o + 2, none⟩) hb _
theorem Ow.setC {w : World} {base g n cap : Nat} {K : List Cp} (h : Ow w base 34 3 (some ⟨g, 0, none⟩) n cap (caps K)) (i : Nat) (c : Cp) : Ow (setC w g (i * 3) c) base 34 3 (some ⟨g, 0, none⟩) n cap (caps (K.set i c)) := by
  rw [caps_set]
  exact ((h.set1 _ _).set1 _ _).set1 _ _
theorem caps_one (K : List Cp) : ∀ u ∈ caps K, u.oneCell' = true := fun u hu => by
  unfold caps at hu
  obtain ⟨x, _, hx⟩ := List.mem_flatMap.1 hu
  exact encC_one x u hx
end Go.Proofs.Ythlojdclncikiaa
