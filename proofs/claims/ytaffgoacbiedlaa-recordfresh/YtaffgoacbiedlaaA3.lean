import Derived.Test.YtaffgoacbiedlaaCB
import Derived.Test.YtaffgoacbiedlaaPA
namespace Go.Proofs.Ytaffgoacbiedlaa
open Go.RowKit

def i64s (l : List Int) : List Value := l.map fun n => Value.int .i64 n
theorem i64s_length (l : List Int) : (i64s l).length = l.length := by simp [i64s]
theorem i64s_append (l m : List Int) : i64s (l ++ m) = i64s l ++ i64s m := by simp [i64s]
theorem i64s_get (l : List Int) (i : Nat) (h : i < l.length) : (i64s l)[i]? = some (.int .i64 l[i]) := by simp [i64s, h]
theorem i64s_one (l : List Int) : ∀ u ∈ i64s l, u.oneCell' = true := by
  intro u hu
  simp only [i64s, List.mem_map] at hu
  obtain ⟨n, _, rfl⟩ := hu
  rfl
theorem info3 : (Try.prog.info? 3).map (fun i => (i.zero, i.size, i.bytes)) = some (some (.int .i64 0), 1, 8) := by kernel_rfl
/-- What a list of numbers reads. -/
structure RI (w : World) (a : Option Addr) (n cap : Nat) (L : List Int) : Prop where
  len : L.length = n
  cap_ : n ≤ cap
  none_ : a = none → n = 0 ∧ cap = 0
  cells : ∀ x, a = some x → ∀ j u, (i64s L)[j]? = some u → w.cell? (x.add j) = some u
theorem RI.later {W w1 : World} {a : Option Addr} {n cap : Nat} {L : List Int} (hb : Below W.heap.size W w1) (h : RI W a n cap L) : RI w1 a n cap L :=
  ⟨h.len, h.cap_, h.none_, fun x hx j u hu => cell_later hb (h.cells x hx j u hu)⟩
theorem RI.nil (w : World) : RI w none 0 0 [] := ⟨rfl, Nat.le_refl _, fun _ => ⟨rfl, rfl⟩, fun _ h => (by cases h)⟩
theorem RI.plain {w : World} {a : Option Addr} {n cap : Nat} {L : List Int} (h : RI w a n cap L) (hl : 0 < n) : ∃ b o, a = some ⟨b, o, none⟩ ∧ ∀ i (hi : i < L.length), w.cell? ⟨b, o + i, none⟩ = some (.int .i64 L[i]) := by
  cases a with
  | none => have := h.none_ rfl; omega
  | some x =>
    obtain ⟨b, o, spot⟩ := x
    have hlen := h.len
    have h0 := h.cells _ rfl 0 _ (i64s_get L 0 (by omega))
    have hs : spot = none := by simpa [Addr.add] using World.cell?_spot h0
    subst hs
    refine ⟨b, o, rfl, fun i hi => ?_⟩
    have := h.cells _ rfl i _ (i64s_get L i hi)
    rw [addr_add] at this
    exact this
theorem RI.at {w : World} {b o n cap : Nat} {L : List Int} (hl : L.length = n) (hc : n ≤ cap) (h : ∀ i (hi : i < L.length), w.cell? ⟨b, o + i, none⟩ = some (.int .i64 L[i])) : RI w (some ⟨b, o, none⟩) n cap L := by
  refine ⟨hl, hc, fun h => (by cases h), fun x hx j u hu => ?_⟩
  cases hx
  rw [addr_add]
  have hj : j < L.length := by have := (List.getElem?_eq_some_iff.1 hu).1; rwa [i64s_length] at this
  rw [i64s_get L j hj] at hu
  cases hu
  exact h j hj
/-- A list of numbers in memory of its own. -/
def OI (w : World) (base : Nat) (a : Option Addr) (n cap : Nat) (L : List Int) : Prop := w.ownsRow base 3 1 (.slice a n cap) n (i64s L)
theorem OI.len {w : World} {base : Nat} {a : Option Addr} {n cap : Nat} {L : List Int} (h : OI w base a n cap L) : L.length = n := by
  have := h.1
  rw [i64s_length, Nat.mul_one] at this
  exact this
theorem OI.read {w : World} {base : Nat} {a : Option Addr} {n cap : Nat} {L : List Int} (h : OI w base a n cap L) : RI w a n cap L := by
  have hl := h.len
  unfold OI at h
  refine ⟨hl, ?_, ?_, ?_⟩
  · rcases h.2 with ⟨h, hn⟩ | ⟨g, c, cur, hv, _, _, hc, _⟩
    · omega
    · simp only [Value.slice.injEq] at hv; omega
  · intro ha
    rcases h.2 with ⟨h, hn⟩ | ⟨g, c, cur, hv, _, _, hc, _⟩
    · simp only [Value.slice.injEq] at h; omega
    · subst ha; simp at hv
  · intro x hx j u hu
    have h2 := h.2
    rcases h2 with ⟨h, hn⟩ | ⟨g, c, cur, hv, _, _, hc, _⟩
    · subst hx; simp at h
    · subst hx
      simp only [Value.slice.injEq, Option.some.injEq] at hv
      obtain ⟨rfl, _, rfl⟩ := hv
      exact h.cells (g := g) rfl j u hu
theorem OI.later {W w1 : World} {base : Nat} {a : Option Addr} {n cap : Nat} {L : List Int} (hb : Below W.heap.size W w1) (h : OI W base a n cap L) : OI w1 base a n cap L := own_later hb h
theorem OI.mono {w : World} {base b : Nat} {a : Option Addr} {n cap : Nat} {L : List Int} (h : OI w base a n cap L) (hb : b ≤ base) : OI w b a n cap L := own_mono h hb
theorem OI.nil (w : World) (base : Nat) : OI w base .none 0 0 [] := ⟨rfl, .inl ⟨rfl, rfl⟩⟩
theorem OI.blk {w : World} {base : Nat} {a : Option Addr} {n cap : Nat} {L : List Int} (h : OI w base a n cap L) : ∀ k, Blk a k → base ≤ k := fun k hk => own_block h k (Blk.of.2 hk)
theorem OI.but {S : Nat → Prop} {w w' : World} {base : Nat} {a : Option Addr} {n cap : Nat} {L : List Int} (hb : But S w w') (h : OI w base a n cap L) (hS : ∀ k, Blk a k → ¬ S k) : OI w' base a n cap L := by
  unfold OI at *
  refine ⟨h.1, ?_⟩
  rcases h.2 with h | ⟨g, cap, cur, hv, hg, hh, r⟩
  · exact .inl h
  · have hg' : Blk a g := by
      simp only [Value.slice.injEq] at hv
      exact ⟨_, hv.1, rfl⟩
    exact .inr ⟨g, cap, cur, hv, hg, by rw [hb.block g (Array.getElem?_eq_some_iff.1 hh).1 (hS g hg')]; exact hh, r⟩
theorem OI.lt {w : World} {base : Nat} {a : Option Addr} {n cap : Nat} {L : List Int} (h : OI w base a n cap L) : ∀ k, Blk a k → k < w.heap.size := by
  intro k ⟨x, hx, hk⟩
  subst hx
  rcases h.2 with ⟨h, _⟩ | ⟨g', c, cur, hv, _, hh, _⟩
  · simp at h
  · simp only [Value.slice.injEq, Option.some.injEq] at hv
    obtain ⟨rfl, _⟩ := hv
    subst hk
    exact (Array.getElem?_eq_some_iff.1 hh).1
theorem OI.gr {w w' : World} {base : Nat} {a a' : Option Addr} {n cap : Nat} {L : List Int} (h : OI w base a n cap L) (g : Gr a a' w w') (hb : base ≤ w.heap.size) : Below base w w' :=
  ⟨g.but.os, g.but.tape, g.but.output, g.but.size, fun k hk => g.but.block k (by omega) (fun hs => by have := h.blk k hs; omega)⟩
/-- Appending numbers to a list in memory of its own. -/
theorem append_ints {w : World} {base : Nat} {a : Option Addr} {n cap : Nat} {L : List Int} {b : Option Addr} {m c : Nat} {M : List Int} (h : OI w base a n cap L) (k : RI w b m c M) (hb : base ≤ w.heap.size) (hr : n + m ≤ 17592186044416) :
    ∃ a' cap' w', (Builtin.append_ #[39, 39] 39 #[.slice a n cap, .slice b m c]).run Try.prog w = .ok (.slice a' (n + m) cap') w' ∧ OI w' base a' (n + m) cap' (L ++ M) ∧ Gr a a' w w' := by
  obtain ⟨i, hi, hz0, hz1, hz2⟩ := info_parts info3
  cases b with
  | none =>
    obtain ⟨rfl, rfl⟩ := k.none_ rfl
    have hM : M = [] := List.eq_nil_of_length_eq_zero k.len
    subst hM
    have hr := run_append_owned_none (P := Try.prog) (w := w) base 39 39 3 i 1 Try.underlying39 hi _ n _ h
    exact ⟨a, cap, w, hr, by rw [List.append_nil]; exact h, Gr.refl _ _⟩
  | some x =>
    obtain ⟨v', w', hr, h2, h3, _, h5⟩ := run_append_own_at (P := Try.prog) w base 39 39 3 i _ 1 8 Try.underlying39 hi hz0 hz1 hz2 rfl (by decide) _ n _ h x m c (i64s M) (by rw [i64s_length, k.len, Nat.mul_one]) (k.cells x rfl) (i64s_one M) (by unfold maxLen; omega) (by omega) hb
    obtain ⟨a', cap', rfl⟩ : ∃ a' cap', v' = .slice a' (n + m) cap' := by
      rcases h2.2 with ⟨h, h'⟩ | ⟨g', cap', _, h, _⟩
      · exact ⟨.none, 0, by rw [h, h']⟩
      · exact ⟨_, cap', h⟩
    refine ⟨a', cap', w', hr, by unfold OI; rw [i64s_append]; exact h2, ⟨h3.os, h3.tape, h3.output, h3.size, fun j hj hn => h3.block j hj (fun e => hn (Blk.of.1 e.symm))⟩, fun j hj => ?_⟩
    rcases h5 with h5 | h5
    · rw [Blk.of.2 hj] at h5
      exact .inl (Blk.of.1 h5.symm)
    · rw [Blk.of.2 hj] at h5
      right
      simp at h5
      omega
theorem RI.one (w : World) (b : Int) : RI (w.alloc (Obj.cells #[Value.int .i64 b] 3)) (some ⟨w.heap.size, 0, .none⟩) 1 1 [b] :=
  RI.at (L := [b]) rfl (Nat.le_refl _) (fun i hi => by
    have : i = 0 := by simp at hi; omega
    subst this
    simp [go_sem])
theorem append_int {w : World} {base n cap : Nat} {a : Option Addr} {L : List Int} {b : Int} (h : OI w base a n cap L) (hb : base ≤ w.heap.size) (hr : n + 1 ≤ 17592186044416) :
    ∃ a' cap' w', (Builtin.append_ #[39, 39] 39 #[.slice a n cap, .slice (some ⟨w.heap.size, 0, none⟩) 1 1]).run Try.prog (w.alloc (Obj.cells #[Value.int .i64 b] 3)) = .ok (.slice a' (n + 1) cap') w' ∧ OI w' base a' (n + 1) cap' (L ++ [b]) ∧ Gr a a' w w' := by
  obtain ⟨a', cap', w', h1, h2, h4⟩ := append_ints (h.later (below1 _ (Obj.cells #[Value.int .i64 b] 3))) (RI.one w b) (by simp; omega) hr
  exact ⟨a', cap', w', h1, h2, h4.pre (below1 _ _)⟩

/-- A list as it is handed on. -/
structure Sl where
  a : Option Addr
  n : Nat
  c : Nat
abbrev Sl.v (s : Sl) : Value := .slice s.a s.n s.c
abbrev Sl.nil : Sl := ⟨none, 0, 0⟩
/-- A call as it is handed on; what its lists read. -/
def cC (c : Cl) (d g : Sl) : List Value := [.int .i64 c.op, .int .i64 c.by_, .int .i64 c.size, .int .i64 c.obj, .int .u64 (c.hi : Int), .int .u64 (c.lo : Int), .bool c.given, .int .i64 c.rights, .int .i64 c.off, .int .i64 c.n, d.v, .int .i64 c.index, g.v]
abbrev cV (c : Cl) (d g : Sl) : Value := .agg #[.int .i64 c.op, .int .i64 c.by_, .int .i64 c.size, .int .i64 c.obj, .int .u64 (c.hi : Int), .int .u64 (c.lo : Int), .bool c.given, .int .i64 c.rights, .int .i64 c.off, .int .i64 c.n, d.v, .int .i64 c.index, g.v]
structure Is (w : World) (c : Cl) (d g : Sl) : Prop where
  data : Row w d.a d.n d.c c.data
  gifts : RI w g.a g.n g.c c.gifts
  hi : c.hi < 18446744073709551616
  lo : c.lo < 18446744073709551616
theorem Is.later {W w1 : World} {c : Cl} {d g : Sl} (hb : Below W.heap.size W w1) (h : Is W c d g) : Is w1 c d g := ⟨h.data.later hb, h.gifts.later hb, h.hi, h.lo⟩
end Go.Proofs.Ytaffgoacbiedlaa
