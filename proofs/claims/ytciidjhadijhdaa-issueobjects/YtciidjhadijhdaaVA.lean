import Derived.RangeFuncNested
import Derived.RangeFuncBound
import Derived.RangeFuncCalls
import Derived.RangeFuncLeaves
import Derived.Shelf.Abstract
import Derived.Shelf.RegionOpen
import Derived.OwnWalkIn
import Derived.TacticsInMore
import Derived.LoopNIn
import Derived.LoopIn
import Derived.Test.YtciidjhadijhdaaV9
import Derived.Test.YtciidjhadijhdaaB2
import Derived.Laws.AppendOwnNone
import Derived.Maps.AppendAt
namespace Go.Proofs.Ytciidjhadijhdaa
open Go.RowKit Go.Shelf H
set_option linter.unusedVariables false

/-! ### Rows whose elements take k cells -/
structure Cr (w : World) (k : Nat) (b : Option Addr) (m c : Nat) (M : List Value) : Prop where
  len : M.length = m * k
  none_ : b = none → m = 0 ∧ c = 0
  cells : ∀ x, b = some x → ∀ j u, M[j]? = some u → w.cell? (x.add j) = some u
  one : ∀ u ∈ M, u.oneCell' = true
theorem append_k (t e : TypeId) (z : Value) (k by_ : Nat) (ht : Try.prog.underlying t = some (.slice e)) (hinf : (Try.prog.info? e).map (fun i => (i.zero, i.size, i.bytes)) = some (some z, k, by_)) (hzs : z.cells.size = k) (hk : 0 < k) (hby : 0 < by_)
    {w : World} {base : Nat} {a : Option Addr} {n cap : Nat} {L : List Value} {b : Option Addr} {m c : Nat} {M : List Value} (h : w.ownsRow base e k (.slice a n cap) n L) (r : Cr w k b m c M) (hb : base ≤ w.heap.size) (hr : (n + m) * by_ ≤ 140737488355328) :
    ∃ a' cap' w', (Builtin.append_ #[t, t] t #[.slice a n cap, .slice b m c]).run Try.prog w = .ok (.slice a' (n + m) cap') w' ∧ w'.ownsRow base e k (.slice a' (n + m) cap') (n + m) (L ++ M) ∧ Gr a a' w w' := by
  obtain ⟨i, hi, hz0, hz1, hz2⟩ := info_parts hinf
  have hnm : n + m ≤ 140737488355328 := Nat.le_trans (Nat.le_mul_of_pos_right _ hby) hr
  cases b with
  | none =>
    obtain ⟨rfl, rfl⟩ := r.none_ rfl
    have hM : M = [] := List.eq_nil_of_length_eq_zero (by have := r.len; omega)
    subst hM
    have hr := run_append_owned_none (P := Try.prog) (w := w) base t t e i k ht hi _ n _ h
    exact ⟨a, cap, w, hr, by simpa using h, Gr.refl _ _⟩
  | some x =>
    obtain ⟨v', w', hr, h2, h3, _, h5⟩ := run_append_own_at (P := Try.prog) w base t t e i _ k by_ ht hi hz0 hz1 hz2 hzs hk _ n _ h x m c M r.len (r.cells x rfl) r.one (by unfold maxLen; omega) hr hb
    obtain ⟨a', cap', rfl⟩ : ∃ a' cap', v' = .slice a' (n + m) cap' := by
      rcases h2.2 with ⟨h, h'⟩ | ⟨g', cap', _, h, _⟩
      · exact ⟨.none, 0, by rw [h, h']⟩
      · exact ⟨_, cap', h⟩
    refine ⟨a', cap', w', hr, h2, ⟨h3.os, h3.tape, h3.output, h3.size, fun j hj hn => h3.block j hj (fun e => hn (Blk.of.1 e.symm))⟩, fun j hj => ?_⟩
    rcases h5 with h5 | h5
    · rw [Blk.of.2 hj] at h5
      exact .inl (Blk.of.1 h5.symm)
    · rw [Blk.of.2 hj] at h5
      right
      simp at h5
      omega
/-- The one element of a literal. -/
theorem Cr.lit (w : World) (e : TypeId) (M : List Value) (h1 : ∀ u ∈ M, u.oneCell' = true) : Cr (w.alloc (Obj.cells M.toArray e)) M.length (some ⟨w.heap.size, 0, none⟩) 1 1 M :=
  ⟨by simp, fun h => (by cases h), fun x hx j u hu => by
    cases hx
    rw [addr_add0]
    simp only [World.cell?, World.alloc, Array.getElem?_push_size]
    simpa using hu, h1⟩
/-- A row of k cells an element, in memory of its own. -/
def Ow (w : World) (base : Nat) (e : TypeId) (k : Nat) (a : Option Addr) (n cap : Nat) (L : List Value) : Prop := w.ownsRow base e k (.slice a n cap) n L
theorem Ow.but {S : Nat → Prop} {w w' : World} {base : Nat} {e : TypeId} {k : Nat} {a : Option Addr} {n cap : Nat} {L : List Value} (h : Ow w base e k a n cap L) (hb : But S w w') (hn : ∀ j, Blk a j → ¬ S j) : Ow w' base e k a n cap L := own_but hb h (fun j hj => hn j (Blk.of.1 hj))
theorem Ow.later {w w' : World} {base : Nat} {e : TypeId} {k : Nat} {a : Option Addr} {n cap : Nat} {L : List Value} (h : Ow w base e k a n cap L) (hb : Below w.heap.size w w') : Ow w' base e k a n cap L := h.but (S := fun _ => False) (But.of hb) (fun _ _ h => h)
theorem Ow.mono {w : World} {base b : Nat} {e : TypeId} {k : Nat} {a : Option Addr} {n cap : Nat} {L : List Value} (h : Ow w base e k a n cap L) (hb : b ≤ base) : Ow w b e k a n cap L := own_mono h hb
theorem Ow.blk {w : World} {base : Nat} {e : TypeId} {k : Nat} {a : Option Addr} {n cap : Nat} {L : List Value} (h : Ow w base e k a n cap L) : ∀ j, Blk a j → base ≤ j ∧ j < w.heap.size := fun j hj => own_block h j (Blk.of.2 hj)
theorem Ow.nil (w : World) (base : Nat) (e : TypeId) (k : Nat) : Ow w base e k none 0 0 [] := ⟨by simp, .inl ⟨rfl, rfl⟩⟩
theorem Ow.cells {w : World} {base : Nat} {e : TypeId} {k : Nat} {a : Option Addr} {n cap : Nat} {L : List Value} (h : Ow w base e k a n cap L) {j : Nat} (hj : Blk a j) : ∃ cs t z, w.heap[j]? = some (.cells cs t z) := by
  rcases h.2 with ⟨h1, _⟩ | ⟨g, c, cur, hv, hg, hh, r⟩
  · simp only [Value.slice.injEq] at h1
    obtain ⟨x, hx, _⟩ := hj
    rw [h1.1] at hx
    cases hx
  · simp only [Value.slice.injEq] at hv
    obtain ⟨x, hx, rfl⟩ := hj
    rw [hv.1] at hx
    cases hx
    exact ⟨_, _, _, hh⟩
theorem Ow.put {w : World} {base : Nat} {e : TypeId} {k : Nat} {a : Option Addr} {n cap : Nat} {L : List Value} (h : Ow w base e k a n cap L) {D : Nat} {ds : List Deferred} (hK : w.heap[D]? = some (.deferred (some ds))) : Ow (w.putObj D (.deferred none)) base e k a n cap L := ownsRow_putObj h _ hK rfl

/-- Tokens in a row. -/
abbrev Tok := Cp × Int × Int
def encT (x : Tok) : List Value := [.int .i64 x.1.1, .int .u64 (x.1.2.1 : Int), .int .u64 (x.1.2.2 : Int), .int .i64 x.2.1, .int .i64 x.2.2]
def toks (K : List Tok) : List Value := K.flatMap encT
theorem encT_one (x : Tok) : ∀ v ∈ encT x, v.oneCell' = true := by
  intro v hv
  simp only [encT, List.mem_cons, List.not_mem_nil, or_false] at hv
  rcases hv with rfl | rfl | rfl | rfl | rfl <;> rfl
theorem toks_snoc (K : List Tok) (x : Tok) : toks (K ++ [x]) = toks K ++ encT x := by simp [toks]
theorem info100 : (Try.prog.info? 100).map (fun i => (i.zero, i.size, i.bytes)) = some (some (.agg #[.int .i64 0, .int .u64 0, .int .u64 0, .int .i64 0, .int .i64 0]), 5, 40) := by kernel_rfl

/-! ### What a round of Drop does -/
theorem snoc_ind {P : List Int → Prop} (h0 : P []) (h1 : ∀ A a, P A → P (A ++ [a])) : ∀ A, P A := fun A => by
  have : ∀ B : List Int, P B.reverse := fun B => by
    induction B with
    | nil => exact h0
    | cons b B ih => rw [List.reverse_cons]; exact h1 _ _ ih
  have h := this A.reverse
  rwa [List.reverse_reverse] at h
end Go.Proofs.Ytciidjhadijhdaa
