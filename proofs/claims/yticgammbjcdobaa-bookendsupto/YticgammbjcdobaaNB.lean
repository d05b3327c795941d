import Derived.Test.YticgammbjcdobaaME
namespace Go.Proofs.Yticgammbjcdobaa
open Go.RowKit
set_option linter.unusedVariables false
set_option linter.unusedSimpArgs false
/-- A list of rows of k cells in memory of its own. -/
def Ow (w : World) (base : Nat) (e : TypeId) (k : Nat) (a : Option Addr) (n cap : Nat) (L : List Value) : Prop := w.ownsRow base e k (.slice a n cap) n L
theorem Ow.nil (w : World) (base : Nat) (e : TypeId) (k : Nat) : Ow w base e k none 0 0 [] := ⟨by simp, .inl ⟨rfl, rfl⟩⟩
theorem Ow.blk {w : World} {base : Nat} {e : TypeId} {k : Nat} {a : Option Addr} {n cap : Nat} {L : List Value} (h : Ow w base e k a n cap L) : ∀ j, Blk a j → base ≤ j ∧ j < w.heap.size := by
  intro j ⟨x, hx, hk⟩
  rcases h.2 with ⟨h1, h2⟩ | ⟨g, cp, cur, hv, hg, hh, r⟩
  · simp only [Value.slice.injEq] at h1
    rw [hx] at h1
    exact absurd h1.1 (by simp)
  · simp only [Value.slice.injEq] at hv
    rw [hx] at hv
    have e := Option.some.inj hv.1
    rw [e] at hk
    simp only at hk
    subst hk
    exact ⟨hg, (Array.getElem?_eq_some_iff.1 hh).1⟩
theorem Ow.but {S : Nat → Prop} {w w' : World} {base : Nat} {e : TypeId} {k : Nat} {a : Option Addr} {n cap : Nat} {L : List Value} (h : Ow w base e k a n cap L) (hb : But S w w') (hn : ∀ j, Blk a j → ¬ S j) : Ow w' base e k a n cap L := by
  obtain ⟨h1, h2⟩ := h
  refine ⟨h1, ?_⟩
  rcases h2 with h2 | ⟨g, cp, cur, hv, hg, hh, r⟩
  · exact .inl h2
  · refine .inr ⟨g, cp, cur, hv, hg, ?_, r⟩
    rw [hb.block g (Array.getElem?_eq_some_iff.1 hh).1 (hn g (by simp only [Value.slice.injEq] at hv; exact ⟨_, hv.1, rfl⟩))]
    exact hh
theorem Ow.later {w w' : World} {base : Nat} {e : TypeId} {k : Nat} {a : Option Addr} {n cap : Nat} {L : List Value} (h : Ow w base e k a n cap L) (hb : Below w.heap.size w w') : Ow w' base e k a n cap L := h.but (S := fun _ => False) (But.of hb) (fun _ _ h => h)
theorem ow_snoc (t e : TypeId) (z : Value) (k by_ : Nat) (ht : Try.prog.underlying t = some (.slice e)) (hinf : (Try.prog.info? e).map (fun i => (i.zero, i.size, i.bytes)) = some (some z, k, by_)) (hzs : z.cells.size = k) (hk : 0 < k)
    {w : World} {base : Nat} {a : Option Addr} {n cap : Nat} {L cs : List Value} (h : Ow w base e k a n cap L) (hl : cs.length = k) (h1 : ∀ u ∈ cs, u.oneCell' = true) (hb : base ≤ w.heap.size) (hn : n + 1 ≤ 100000) (hby : by_ ≤ 1000) :
    ∃ a' c' w', (Builtin.append_ #[t, t] t #[.slice a n cap, .slice (some ⟨w.heap.size, 0, none⟩) 1 1]).run Try.prog (w.alloc (Obj.cells cs.toArray e)) = .ok (.slice a' (n + 1) c') w' ∧ Ow w' base e k a' (n + 1) c' (L ++ cs) ∧ But (Blk a) w w' ∧ ∀ j, Blk a' j → Blk a j ∨ w.heap.size ≤ j := by
  obtain ⟨i, hi, hz0, hz1, hz2⟩ := info_parts hinf
  have hb1 := below1 w (Obj.cells cs.toArray e)
  have hbyt : (n + 1) * by_ ≤ 140737488355328 := by
    have := Nat.mul_le_mul hn hby
    omega
  obtain ⟨v', w', hr, h2, h3, _, h5⟩ := run_append_own_at (P := Try.prog) (w.alloc (Obj.cells cs.toArray e)) base t t e i z k by_ ht hi hz0 hz1 hz2 hzs hk _ n _ (h.later hb1) ⟨w.heap.size, 0, none⟩ 1 1 cs (by rw [hl, Nat.one_mul]) (fun j u hu => by
    rw [addr_add0]
    have := rangeAt_new w cs e j u hu
    rw [Nat.zero_add] at this
    exact this) h1 (by unfold maxLen; omega) hbyt (by simp; omega)
  obtain ⟨a', c', rfl⟩ : ∃ a' c', v' = .slice a' (n + 1) c' := by
    rcases h2.2 with ⟨h, h'⟩ | ⟨g', cap', _, h, _⟩
    · exact ⟨.none, 0, by rw [h, h']⟩
    · exact ⟨_, cap', h⟩
  have hbut : But (Blk a) (w.alloc (Obj.cells cs.toArray e)) w' := ⟨h3.os, h3.tape, h3.output, h3.size, fun j hj hn => h3.block j hj (fun e => hn (Blk.of.1 e.symm))⟩
  refine ⟨a', c', w', hr, h2, (But.of hb1).trans hbut, fun j hj => ?_⟩
  rcases h5 with h5 | h5
  · rw [Blk.of.2 hj] at h5
    exact .inl (Blk.of.1 h5.symm)
  · rw [Blk.of.2 hj] at h5
    right
    simp at h5
    omega
theorem Ow.mono {w : World} {base b2 : Nat} {e : TypeId} {k : Nat} {a : Option Addr} {n cap : Nat} {L : List Value} (h : Ow w base e k a n cap L) (hb : b2 ≤ base) : Ow w b2 e k a n cap L := by
  obtain ⟨h1, h2⟩ := h
  refine ⟨h1, ?_⟩
  rcases h2 with h2 | ⟨g, cp, cur, hv, hg, r⟩
  · exact .inl h2
  · exact .inr ⟨g, cp, cur, hv, Nat.le_trans hb hg, r⟩
def encC (c : Cp) : List Value := [.int .i64 c.o, .int .u64 (c.h : Int), .int .u64 (c.l : Int)]
def capsL (l : List Cp) : List Value := (l.map encC).flatten
/-- A process's list in memory. -/
structure Kn where
  p : Int
  s : Sl
  l : List Cp
/-- Lists by a process's number. -/
structure Mc (w : World) (base b : Nat) (K : List Kn) : Prop where
  out : Mg w 3 b (K.map fun k => (.int .i64 k.p, .slice k.s.a k.s.n k.s.c))
  each : ∀ k ∈ K, Ow w base 31 3 k.s.a k.s.n k.s.c (capsL k.l) ∧ k.l.length = k.s.n
  dis : K.Pairwise (fun x y => ∀ j, Blk x.s.a j → ¬ Blk y.s.a j)
theorem Mc.new (w : World) (base : Nat) : Mc (w.alloc (.map #[] 0)) base w.heap.size [] := ⟨Mg.new w _, fun g h => (by cases h), List.Pairwise.nil⟩
theorem Mc.but {S : Nat → Prop} {w w' : World} {base b : Nat} {K : List Kn} (h : Mc w base b K) (hb : But S w w') (h1 : ¬ S b) (h2 : ∀ j, base ≤ j → ¬ S j) : Mc w' base b K :=
  ⟨h.out.but hb h1, fun k hk => ⟨(h.each k hk).1.but hb (fun j hj => h2 j ((h.each k hk).1.blk j hj).1), (h.each k hk).2⟩, h.dis⟩
theorem Mc.later {w w' : World} {base b : Nat} {K : List Kn} (h : Mc w base b K) (hb : Below w.heap.size w w') : Mc w' base b K := h.but (S := fun _ => False) (But.of hb) (fun h => h) (fun _ _ h => h)
/-- A book in memory: where it lies, what it holds. -/
structure Bm where
  g : Nat
  bl : Nat
  bi : Nat
  ba : Nat
  bt : Nat
  bk : Nat
  n : Int
  L : List Im
  A : List Im
  T : List Im
  I : List Kn
  K : List Kn
abbrev Bm.cells (m : Bm) : List Value := [.int .i64 m.n, .map (some m.bl), .map (some m.bi), .map (some m.ba), .map (some m.bt), .map (some m.bk)]
abbrev Bm.rest (m : Bm) : List Nat := m.g :: m.bi :: m.bk :: (m.ba :: m.A.map Im.b)
abbrev Bm.blks (m : Bm) : List Nat := (m.bl :: m.L.map Im.b) ++ ((m.bt :: m.T.map Im.b) ++ m.rest)
structure Bw (w : World) (m : Bm) : Prop where
  bx : Bx w m.g m.cells
  live : Mm w 29 m.bl m.L
  laid : Mm w 3 m.ba m.A
  told : Mm w 95 m.bt m.T
  lists : Mc w (m.g + 1) m.bi m.I
  known : Mc w (m.g + 1) m.bk m.K
  dis : m.blks.Nodup
  lo : ∀ j ∈ m.blks, j < w.heap.size
  ap : ∀ x ∈ m.I, ∀ y ∈ m.K, ∀ j, Blk x.s.a j → ¬ Blk y.s.a j
theorem Bw.later {w w' : World} {m : Bm} (h : Bw w m) (hb : Below w.heap.size w w') : Bw w' m :=
  ⟨h.bx.later hb, h.live.later hb, h.laid.later hb, h.told.later hb, h.lists.later hb, h.known.later hb, h.dis, fun j hj => Nat.lt_of_lt_of_le (h.lo j hj) hb.size, h.ap⟩
theorem nodup_in {X Y : List Nat} {k : Nat} (h : (X ++ Y).Nodup) (hk : k ∉ X ++ Y) : ((X ++ [k]) ++ Y).Nodup := by
  have hp : ((X ++ [k]) ++ Y).Perm (k :: (X ++ Y)) := by
    rw [List.append_assoc]
    exact List.perm_middle
  exact hp.nodup_iff.2 (List.nodup_cons.2 ⟨hk, h⟩)
theorem map_ne {w : World} {b : Nat} {es : Array MapEntry} {clk : Nat} {base : Nat} {e : TypeId} {k : Nat} {a : Option Addr} {n cap : Nat} {L : List Value} (hb : w.heap[b]? = some (.map es clk)) (h : Ow w base e k a n cap L) : ¬ Blk a b := fun hk => by
  obtain ⟨x, hx, e1⟩ := hk
  rcases h.2 with ⟨h1, h2⟩ | ⟨g, cp, cur, hv, hg, hh, r⟩
  · simp only [Value.slice.injEq] at h1
    rw [hx] at h1
    exact absurd h1.1 (by simp)
  · simp only [Value.slice.injEq] at hv
    rw [hx] at hv
    have e2 := Option.some.inj hv.1
    rw [e2] at e1
    simp only at e1
    subst e1
    rw [hb] at hh
    cases hh
/-- Behind a change of one map's block lists stay. -/
theorem Mc.map {w w' : World} {base b c : Nat} {K : List Kn} {tk : TypeId} {E : List (Value × Value)} (h : Mc w base b K) (hm : Mg w tk c E) (hb : But (· = c) w w') (hne : b ≠ c) : Mc w' base b K :=
  ⟨h.out.but hb hne, fun k hk => ⟨(h.each k hk).1.but hb (fun j hj e => by
    obtain ⟨es, clk, h1, _⟩ := hm.ex
    subst e
    exact map_ne h1 (h.each k hk).1 hj), (h.each k hk).2⟩, h.dis⟩
/-- An object's first token. -/
theorem Bw.issued {w w' : World} {m : Bm} (h : Bw w m) {p : Int} {k : Nat} {E : List (Value × Value)} (hk : w.heap.size ≤ k) (hl : Mm w' 29 m.bl (m.L ++ [⟨p, k, E⟩])) (hb : But (· = m.bl) w w') : Bw w' { m with L := m.L ++ [⟨p, k, E⟩] } := by
  have hd := h.dis
  have hd1 := (List.nodup_append.1 hd)
  have hne : ∀ j ∈ (m.bt :: m.T.map Im.b) ++ m.rest, j ≠ m.bl := fun j hj e => hd1.2.2 m.bl List.mem_cons_self j hj e.symm
  have hkl : k < w'.heap.size := hl.lt k (List.mem_cons_of_mem _ (List.mem_map.2 ⟨⟨p, k, E⟩, List.mem_append.2 (.inr (List.mem_singleton.2 rfl)), rfl⟩))
  refine ⟨h.bx.but hb (hne _ (by simp)), hl, h.laid.but hb (fun j hj => hne j (List.mem_append.2 (.inr (List.mem_cons_of_mem _ (List.mem_cons_of_mem _ (List.mem_cons_of_mem _ hj)))))), h.told.but hb (fun j hj => hne j (List.mem_append.2 (.inl hj))), h.lists.map h.live.out hb (hne _ (by simp)), h.known.map h.live.out hb (hne _ (by simp)), ?_, ?_, h.ap⟩
  · have := nodup_in (k := k) hd (fun hx => by have := h.lo k hx; omega)
    simp only [Bm.blks, List.map_append, List.map_cons, List.map_nil] at this ⊢
    exact this
  · intro j hj
    simp only [Bm.blks, List.map_append, List.map_cons, List.map_nil] at hj
    rcases List.mem_append.1 hj with hj | hj
    · rcases List.mem_cons.1 hj with rfl | hj
      · have := h.lo m.bl (by simp); have := hb.size; omega
      · rcases List.mem_append.1 hj with hj | hj
        · have := h.lo j (List.mem_append.2 (.inl (List.mem_cons_of_mem _ hj))); have := hb.size; omega
        · rw [List.mem_singleton.1 hj]; exact hkl
    · have := h.lo j (List.mem_append.2 (.inr hj)); have := hb.size; omega
end Go.Proofs.Yticgammbjcdobaa
