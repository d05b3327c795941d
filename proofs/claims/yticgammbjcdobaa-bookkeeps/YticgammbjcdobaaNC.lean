import Derived.Test.YticgammbjcdobaaNB
namespace Go.Proofs.Yticgammbjcdobaa
open Go.RowKit
set_option linter.unusedVariables false
set_option linter.unusedSimpArgs false
def encC (c : Cp) : List Value := [.int .i64 c.o, .int .u64 (c.h : Int), .int .u64 (c.l : Int)]
def capsL (l : List Cp) : List Value := (l.map encC).flatten
/-- A process's list in memory. -/
structure Kn where
  p : Int
  s : Sl
  l : List Cp
/-- Lists by a process's number. -/
structure Mc (w : World) (base b : Nat) (K : List Kn) : Prop where
  out : Mg w 3 b (K.map fun k => (.int .i64 k.p, .slice k.s.a k.s.n k.s.c))
  each : ∀ k ∈ K, Ow w base 31 3 k.s.a k.s.n k.s.c (capsL k.l) ∧ k.l.length = k.s.n
  dis : K.Pairwise (fun x y => ∀ j, Blk x.s.a j → ¬ Blk y.s.a j)
theorem Mc.new (w : World) (base : Nat) : Mc (w.alloc (.map #[] 0)) base w.heap.size [] := ⟨Mg.new w _, fun g h => (by cases h), List.Pairwise.nil⟩
theorem Mc.but {S : Nat → Prop} {w w' : World} {base b : Nat} {K : List Kn} (h : Mc w base b K) (hb : But S w w') (h1 : ¬ S b) (h2 : ∀ j, base ≤ j → ¬ S j) : Mc w' base b K :=
  ⟨h.out.but hb h1, fun k hk => ⟨(h.each k hk).1.but hb (fun j hj => h2 j ((h.each k hk).1.blk j hj).1), (h.each k hk).2⟩, h.dis⟩
theorem Mc.later {w w' : World} {base b : Nat} {K : List Kn} (h : Mc w base b K) (hb : Below w.heap.size w w') : Mc w' base b K := h.but (S := fun _ => False) (But.of hb) (fun h => h) (fun _ _ h => h)
/-- A book in memory: where it lies, what it holds. -/
structure Bm where
  g : Nat
  bl : Nat
  bi : Nat
  ba : Nat
  bt : Nat
  bk : Nat
  n : Int
  L : List Im
  A : List Im
  T : List Im
  I : List Kn
  K : List Kn
abbrev Bm.cells (m : Bm) : List Value := [.int .i64 m.n, .map (some m.bl), .map (some m.bi), .map (some m.ba), .map (some m.bt), .map (some m.bk)]
abbrev Bm.rest (m : Bm) : List Nat := m.g :: m.bi :: m.bk :: (m.ba :: m.A.map Im.b)
abbrev Bm.blks (m : Bm) : List Nat := (m.bl :: m.L.map Im.b) ++ ((m.bt :: m.T.map Im.b) ++ m.rest)
structure Bw (w : World) (m : Bm) : Prop where
  bx : Bx w m.g m.cells
  live : Mm w 29 m.bl m.L
  laid : Mm w 3 m.ba m.A
  told : Mm w 95 m.bt m.T
  lists : Mc w (m.g + 1) m.bi m.I
  known : Mc w (m.g + 1) m.bk m.K
  dis : m.blks.Nodup
  lo : ∀ j ∈ m.blks, j < w.heap.size
  ap : ∀ x ∈ m.I, ∀ y ∈ m.K, ∀ j, Blk x.s.a j → ¬ Blk y.s.a j
theorem Bw.later {w w' : World} {m : Bm} (h : Bw w m) (hb : Below w.heap.size w w') : Bw w' m :=
  ⟨h.bx.later hb, h.live.later hb, h.laid.later hb, h.told.later hb, h.lists.later hb, h.known.later hb, h.dis, fun j hj => Nat.lt_of_lt_of_le (h.lo j hj) hb.size, h.ap⟩
theorem nodup_in {X Y : List Nat} {k : Nat} (h : (X ++ Y).Nodup) (hk : k ∉ X ++ Y) : ((X ++ [k]) ++ Y).Nodup := by
  have hp : ((X ++ [k]) ++ Y).Perm (k :: (X ++ Y)) := by
    rw [List.append_assoc]
    exact List.perm_middle
  exact hp.nodup_iff.2 (List.nodup_cons.2 ⟨hk, h⟩)
theorem map_ne {w : World} {b : Nat} {es : Array MapEntry} {clk : Nat} {base : Nat} {e : TypeId} {k : Nat} {a : Option Addr} {n cap : Nat} {L : List Value} (hb : w.heap[b]? = some (.map es clk)) (h : Ow w base e k a n cap L) : ¬ Blk a b := fun hk => by
  obtain ⟨x, hx, e1⟩ := hk
  rcases h.2 with ⟨h1, h2⟩ | ⟨g, cp, cur, hv, hg, hh, r⟩
  · simp only [Value.slice.injEq] at h1
    rw [hx] at h1
    exact absurd h1.1 (by simp)
  · simp only [Value.slice.injEq] at hv
    rw [hx] at hv
    have e2 := Option.some.inj hv.1
    rw [e2] at e1
    simp only at e1
    subst e1
    rw [hb] at hh
    cases hh
/-- Behind a change of one map's block lists stay. -/
theorem Mc.map {w w' : World} {base b c : Nat} {K : List Kn} {tk : TypeId} {E : List (Value × Value)} (h : Mc w base b K) (hm : Mg w tk c E) (hb : But (· = c) w w') (hne : b ≠ c) : Mc w' base b K :=
  ⟨h.out.but hb hne, fun k hk => ⟨(h.each k hk).1.but hb (fun j hj e => by
    obtain ⟨es, clk, h1, _⟩ := hm.ex
    subst e
    exact map_ne h1 (h.each k hk).1 hj), (h.each k hk).2⟩, h.dis⟩
/-- An object's first token. -/
theorem Bw.issued {w w' : World} {m : Bm} (h : Bw w m) {p : Int} {k : Nat} {E : List (Value × Value)} (hk : w.heap.size ≤ k) (hl : Mm w' 29 m.bl (m.L ++ [⟨p, k, E⟩])) (hb : But (· = m.bl) w w') : Bw w' { m with L := m.L ++ [⟨p, k, E⟩] } := by
  have hd := h.dis
  have hd1 := (List.nodup_append.1 hd)
  have hne : ∀ j ∈ (m.bt :: m.T.map Im.b) ++ m.rest, j ≠ m.bl := fun j hj e => hd1.2.2 m.bl List.mem_cons_self j hj e.symm
  have hkl : k < w'.heap.size := hl.lt k (List.mem_cons_of_mem _ (List.mem_map.2 ⟨⟨p, k, E⟩, List.mem_append.2 (.inr (List.mem_singleton.2 rfl)), rfl⟩))
  refine ⟨h.bx.but hb (hne _ (by simp)), hl, h.laid.but hb (fun j hj => hne j (List.mem_append.2 (.inr (List.mem_cons_of_mem _ (List.mem_cons_of_mem _ (List.mem_cons_of_mem _ hj)))))), h.told.but hb (fun j hj => hne j (List.mem_append.2 (.inl hj))), h.lists.map h.live.out hb (hne _ (by simp)), h.known.map h.live.out hb (hne _ (by simp)), ?_, ?_, h.ap⟩
  · have := nodup_in (k := k) hd (fun hx => by have := h.lo k hx; omega)
    simp only [Bm.blks, List.map_append, List.map_cons, List.map_nil] at this ⊢
    exact this
  · intro j hj
    simp only [Bm.blks, List.map_append, List.map_cons, List.map_nil] at hj
    rcases List.mem_append.1 hj with hj | hj
    · rcases List.mem_cons.1 hj with rfl | hj
      · have := h.lo m.bl (by simp); have := hb.size; omega
      · rcases List.mem_append.1 hj with hj | hj
        · have := h.lo j (List.mem_append.2 (.inl (List.mem_cons_of_mem _ hj))); have := hb.size; omega
        · rw [List.mem_singleton.1 hj]; exact hkl
    · have := h.lo j (List.mem_append.2 (.inr hj)); have := hb.size; omega
end Go.Proofs.Yticgammbjcdobaa
