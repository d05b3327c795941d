import Derived.Test.YtciidjhadijhdaaRows
import Derived.Test.YtciidjhadijhdaaDM
import Derived.Test.YtciidjhadijhdaaA1
import Derived.WalkKit
import Derived.WalkSpells
import Derived.WalkLawsBesides
import Derived.Deep.RegionHeld3
import Derived.Deep.QuietTactic
import Derived.BigQuiet
import Derived.Maps.AppendAt
import Derived.Laws.AppendOwnNone
import Derived.Laws.OwnMore
import Derived.Laws.CopyRow
namespace Go.Proofs.Ytciidjhadijhdaa.D
open Go.Proofs.Ytciidjhadijhdaa.H (B64)
open Go.RowKit

theorem keep_call {C : Prop} {K : Nat} {w0 W w1 : World} (hb : Below W.heap.size W w1) (hK : K ≤ w0.heap.size) (hS : C ∧ Below K w0 W) : Below K w0 w1 :=
  hS.2.trans (hb.mono (Nat.le_trans hK hS.2.size))
theorem own_later {W w1 : World} {base : Nat} {e : TypeId} {size : Nat} {v : Value} {n : Nat} {xs : List Value} (hb : Below W.heap.size W w1) (h : W.ownsRow base e size v n xs) : w1.ownsRow base e size v n xs := by
  refine ⟨h.1, ?_⟩
  rcases h.2 with h | ⟨g, cap, cur, hv, hg, hh, r⟩
  · exact .inl h
  · have hlt : g < W.heap.size := by
      rcases Nat.lt_or_ge g W.heap.size with h1 | h1
      · exact h1
      · rw [Array.getElem?_eq_none h1] at hh; cases hh
    exact .inr ⟨g, cap, cur, hv, hg, by rw [hb.block g hlt]; exact hh, r⟩
theorem own_block {w : World} {base : Nat} {e : TypeId} {size : Nat} {v : Value} {n : Nat} {xs : List Value} (h : w.ownsRow base e size v n xs) : ∀ k, v.ownBlock = some k → base ≤ k := by
  intro k hk
  rcases h.2 with ⟨rfl, _⟩ | ⟨g, cap, cur, rfl, hg, _⟩
  · cases hk
  · simp [Value.ownBlock] at hk; omega
theorem cell_set_ne {w : World} {b o o' : Nat} {v u : Value} (h : w.cell? ⟨b, o, none⟩ = some v) (hne : o' ≠ o) : (w.setCell ⟨b, o', none⟩ u).cell? ⟨b, o, none⟩ = some v := by
  rw [World.cell?_setCell_other _ _ _ _ (fun e => hne (by simpa using congrArg Addr.off e))]
  exact h

/-- A word's box. -/
def Box (w : World) (k : Nat) (a b : Int) : Prop := w.cell? ⟨k, 0, none⟩ = some (.int .u64 a) ∧ w.cell? ⟨k, 1, none⟩ = some (.int .u64 b)
theorem Box.new (w : World) (a b : Int) : Box (w.alloc (.cells #[.int .u64 a, .int .u64 b] 31)) w.heap.size a b := ⟨by simp [go_sem], by simp [go_sem]⟩
theorem Box.but {S : Nat → Prop} {w w' : World} {k : Nat} {a b : Int} (hb : But S w w') (h : Box w k a b) (hn : ¬ S k) : Box w' k a b := ⟨cell_but hb h.1 hn, cell_but hb h.2 hn⟩
theorem Box.later {W w1 : World} {k : Nat} {a b : Int} (hb : Below W.heap.size W w1) (h : Box W k a b) : Box w1 k a b := ⟨cell_later hb h.1, cell_later hb h.2⟩
theorem Box.alloc {w : World} {k : Nat} {a b : Int} (h : Box w k a b) (o : Obj) : Box (w.alloc o) k a b := h.later (below1 _ _)
theorem Box.drew {w : World} {k : Nat} {a b : Int} (h : Box w k a b) : Box w.drew k a b := h

/-- The word N at a place. -/
def Wd (w : World) (b o N : Nat) : Prop := w.cell? ⟨b, o, none⟩ = some (.int .u64 (hiI N)) ∧ w.cell? ⟨b, o + 1, none⟩ = some (.int .u64 (loI N))
theorem Wd.but {S : Nat → Prop} {w w' : World} {b o N : Nat} (hb : But S w w') (h : Wd w b o N) (hn : ¬ S b) : Wd w' b o N := ⟨cell_but hb h.1 hn, cell_but hb h.2 hn⟩
theorem Wd.later {w w' : World} {b o N : Nat} (hb : Below w.heap.size w w') (h : Wd w b o N) : Wd w' b o N := ⟨cell_later hb h.1, cell_later hb h.2⟩

def wcs (N : Nat) : List Value := [.int .u64 (hiI N), .int .u64 (loI N)]
/-- The words' cells, one behind the other. -/
def wvs (f : Nat → Nat) (k : Nat) : List Value := (List.range k).flatMap fun i => wcs (f i)
theorem wvs_succ (f : Nat → Nat) (k : Nat) : wvs f (k + 1) = wvs f k ++ wcs (f k) := by simp [wvs, List.range_succ]
theorem wvs_length (f : Nat → Nat) (k : Nat) : (wvs f k).length = k * 2 := by
  induction k with
  | zero => rfl
  | succ k ih => rw [wvs_succ, List.length_append, ih, Nat.succ_mul]; rfl
theorem wvs_get (f : Nat → Nat) (k i c : Nat) (hi : i < k) (hc : c < 2) : (wvs f k)[i * 2 + c]? = (wcs (f i))[c]? := by
  induction k with
  | zero => omega
  | succ k ih =>
    rw [wvs_succ]
    by_cases h : i < k
    · rw [List.getElem?_append_left (by rw [wvs_length]; omega)]
      exact ih h
    · obtain rfl : i = k := by omega
      rw [List.getElem?_append_right (by rw [wvs_length]; omega), wvs_length]
      congr 1
      omega
theorem wvs_one (f : Nat → Nat) (k : Nat) : ∀ u ∈ wvs f k, u.oneCell' = true := by
  intro u hu
  simp only [wvs, List.mem_flatMap] at hu
  obtain ⟨i, _, hu⟩ := hu
  simp only [wcs, List.mem_cons, List.not_mem_nil, or_false] at hu
  rcases hu with rfl | rfl <;> rfl
theorem wvs_congr (f g : Nat → Nat) (k : Nat) (h : ∀ i, i < k → f i = g i) : wvs f k = wvs g k := by
  induction k with
  | zero => rfl
  | succ k ih => rw [wvs_succ, wvs_succ, ih (fun i hi => h i (by omega)), h k (by omega)]

/-- What a list of words reads. -/
structure Ws (w : World) (a : Option Addr) (n cap : Nat) (f : Nat → Nat) : Prop where
  cap_ : n ≤ cap
  none_ : a = none → n = 0 ∧ cap = 0
  cells : ∀ x, a = some x → ∀ j u, (wvs f n)[j]? = some u → w.cell? (x.add j) = some u
  small : ∀ i, f i < B64 * B64
theorem Ws.later {W w1 : World} {a : Option Addr} {n cap : Nat} {f : Nat → Nat} (hb : Below W.heap.size W w1) (h : Ws W a n cap f) : Ws w1 a n cap f :=
  ⟨h.cap_, h.none_, fun x hx j u hu => cell_later hb (h.cells x hx j u hu), h.small⟩
theorem Ws.alloc {w : World} {a : Option Addr} {n cap : Nat} {f : Nat → Nat} (h : Ws w a n cap f) (o : Obj) : Ws (w.alloc o) a n cap f := h.later (below1 _ _)
/-- Where there is a word the address is plain. -/
theorem Ws.plain {w : World} {a : Option Addr} {n cap : Nat} {f : Nat → Nat} (h : Ws w a n cap f) (hl : 0 < n) : ∃ b o, a = some ⟨b, o, none⟩ ∧ ∀ i, i < n → Wd w b (o + i * 2) (f i) := by
  cases a with
  | none => have := h.none_ rfl; omega
  | some x =>
    obtain ⟨b, o, spot⟩ := x
    have h0 := h.cells _ rfl (0 * 2 + 0) _ (wvs_get f n 0 0 hl (by omega))
    have hs : spot = none := by simpa [Addr.add] using World.cell?_spot h0
    subst hs
    refine ⟨b, o, rfl, fun i hi => ⟨?_, ?_⟩⟩
    · have := h.cells _ rfl (i * 2 + 0) _ (wvs_get f n i 0 hi (by omega))
      rw [addr_add] at this
      exact this
    · have := h.cells _ rfl (i * 2 + 1) _ (wvs_get f n i 1 hi (by omega))
      rw [addr_add] at this
      exact this
theorem Ws.at {w : World} {b o n cap : Nat} {f : Nat → Nat} (hc : n ≤ cap) (hs : ∀ i, f i < B64 * B64) (h : ∀ i, i < n → Wd w b (o + i * 2) (f i)) : Ws w (some ⟨b, o, none⟩) n cap f := by
  refine ⟨hc, fun h => (by cases h), fun x hx j u hu => ?_, hs⟩
  cases hx
  rw [addr_add]
  have hj : j < n * 2 := by have := (List.getElem?_eq_some_iff.1 hu).1; rwa [wvs_length] at this
  have hq := wvs_get f n (j / 2) (j % 2) (by omega) (by omega)
  have hjj : j / 2 * 2 + j % 2 = j := by omega
  rw [hjj] at hq
  rw [hq] at hu
  have hw := h (j / 2) (by omega)
  rcases Nat.mod_two_eq_zero_or_one j with e | e
  · rw [e] at hu
    simp only [wcs, List.getElem?_cons_zero, Option.some.injEq] at hu
    subst hu
    have := hw.1
    have e2 : o + j / 2 * 2 = o + j := by omega
    rwa [e2] at this
  · rw [e] at hu
    simp only [wcs, List.getElem?_cons_succ, List.getElem?_cons_zero, Option.some.injEq] at hu
    subst hu
    have := hw.2
    have e2 : o + j / 2 * 2 + 1 = o + j := by omega
    rwa [e2] at this
theorem Ws.take {w : World} {a : Option Addr} {n cap : Nat} {f : Nat → Nat} (h : Ws w a n cap f) {m : Nat} (hm : m ≤ n) (h0 : 0 < m) : Ws w a m cap f := by
  obtain ⟨b, o, rfl, hw⟩ := h.plain (by omega)
  exact Ws.at (by have := h.cap_; omega) h.small (fun i hi => hw i (by omega))

/-- An array of words in a block of its own. -/
structure Ar (w : World) (b n : Nat) (f : Nat → Nat) : Prop where
  lt : b < w.heap.size
  fr : ∀ j, w.frozen? ⟨b, j, none⟩ = false
  at_ : ∀ i, i < n → Wd w b (i * 2) (f i)
theorem Ar.but {S : Nat → Prop} {w w' : World} {b n : Nat} {f : Nat → Nat} (hb : But S w w') (h : Ar w b n f) (hn : ¬ S b) : Ar w' b n f :=
  ⟨Nat.lt_of_lt_of_le h.lt hb.size, fun j => by rw [World.frozen?_of_block (w := w) (hb.block b h.lt hn)]; exact h.fr j, fun i hi => (h.at_ i hi).but hb hn⟩
theorem Ar.later {w w' : World} {b n : Nat} {f : Nat → Nat} (hb : Below w.heap.size w w') (h : Ar w b n f) : Ar w' b n f := h.but (S := fun _ => False) (But.of hb) (fun h => h)
theorem Ar.alloc {w : World} {b n : Nat} {f : Nat → Nat} (h : Ar w b n f) (o : Obj) : Ar (w.alloc o) b n f := h.later (below1 _ _)
theorem Ar.congr {w : World} {b n : Nat} {f g : Nat → Nat} (h : Ar w b n f) (e : ∀ i, i < n → f i = g i) : Ar w b n g := ⟨h.lt, h.fr, fun i hi => by rw [← e i hi]; exact h.at_ i hi⟩
theorem Ar.ws {w : World} {b n cap : Nat} {f : Nat → Nat} (h : Ar w b n f) (hc : n ≤ cap) (hs : ∀ i, f i < B64 * B64) : Ws w (some ⟨b, 0, none⟩) n cap f :=
  Ws.at hc hs (fun i hi => by rw [Nat.zero_add]; exact h.at_ i hi)
theorem Ar.take {w : World} {b n m : Nat} {f : Nat → Nat} (h : Ar w b n f) (hm : m ≤ n) : Ar w b m f := ⟨h.lt, h.fr, fun i hi => h.at_ i (by omega)⟩
/-- The i-th is written over. -/
theorem Ar.set {w : World} {b n : Nat} {f g : Nat → Nat} {i N : Nat} (h : Ar w b n f) (hi : i < n) (hg : ∀ j, j < n → g j = if j = i then N else f j) :
    Ar ((w.setCell ⟨b, i * 2, none⟩ (.int .u64 (hiI N))).setCell ⟨b, i * 2 + 1, none⟩ (.int .u64 (loI N))) b n g := by
  refine ⟨by simpa using h.lt, fun j => by simpa using h.fr j, fun j hj => ?_⟩
  rw [hg j hj]
  obtain ⟨h1, h2⟩ := h.at_ j hj
  by_cases e : j = i
  · subst e
    rw [if_pos rfl]
    exact ⟨cell_set_ne (World.cell?_setCell_same _ _ _ h1) (by omega), World.cell?_setCell_same _ _ _ (cell_set_ne h2 (by omega))⟩
  · rw [if_neg e]
    exact ⟨cell_set_ne (cell_set_ne h1 (by omega)) (by omega), cell_set_ne (cell_set_ne h2 (by omega)) (by omega)⟩
theorem info31 : (Try.prog.info? 31).map (fun i => (i.zero, i.size, i.bytes)) = some (some (.agg #[.int .u64 0, .int .u64 0]), 2, 16) := by kernel_rfl
theorem ar_of {w : World} {base b n cap : Nat} {f : Nat → Nat} (h : w.ownsRow base 31 2 (.slice (some ⟨b, 0, none⟩) n cap) n (wvs f n)) : Ar w b n f ∧ base ≤ b ∧ n ≤ cap := by
  have hb := own_block h b rfl
  have hcell : ∀ i c u, i < n → c < 2 → (wcs (f i))[c]? = some u → w.cell? ⟨b, i * 2 + c, none⟩ = some u := by
    intro i c u hi hc hu
    have := h.cells (g := b) rfl (i * 2 + c) u (by rw [wvs_get f n i c hi hc]; exact hu)
    rw [addr_add0] at this
    exact this
  rcases h.2 with ⟨h0, _⟩ | ⟨g, c, cur, hv, _, hh, hc, _⟩
  · simp at h0
  · simp only [Value.slice.injEq, Option.some.injEq, Addr.mk.injEq] at hv
    obtain ⟨⟨rfl, _⟩, _, rfl⟩ := hv
    refine ⟨⟨(Array.getElem?_eq_some_iff.1 hh).1, fun j => by simp [World.frozen?, hh], fun i hi => ⟨hcell i 0 _ hi (by omega) rfl, hcell i 1 _ hi (by omega) rfl⟩⟩, hb, hc⟩
/-- A list of n zero words is made. -/
theorem make_run (w : World) (t : TypeId) (ht : Try.prog.underlying t = some (.slice 31)) (n : Nat) (hn : n ≤ 4096) :
    ∃ w', (Instr.makeSlice t (.int .i64 (n : Int)) (.int .i64 (n : Int))).run Try.prog w = .ok (.slice (some ⟨w.heap.size, 0, none⟩) n n) w' ∧ Ar w' w.heap.size n (fun _ => 0) ∧ Below w.heap.size w w' := by
  obtain ⟨i, hi, hz0, hz1, hz2⟩ := info_parts info31
  obtain ⟨w', hr, ho, hg⟩ := run_make_full (P := Try.prog) w w.heap.size t 31 i _ 2 ht hi hz0 hz1 .i64 .i64 n (by rw [hz2]; omega) (by unfold maxLen; omega) (Nat.le_refl _)
  refine ⟨w', hr, ?_, (Below.refl _ _).grown hg (Nat.le_refl _) (fun k hk => by cases hk)⟩
  have e : (madeCells (Value.agg #[.int .u64 0, .int .u64 0]).cells (n * 2)).toList = wvs (fun _ => 0) n := by
    apply List.ext_getElem?
    intro j
    by_cases hj : j < n * 2
    · have hq := wvs_get (fun _ => 0) n (j / 2) (j % 2) (by omega) (by omega)
      have hjj : j / 2 * 2 + j % 2 = j := by omega
      rw [hjj] at hq
      rw [hq]
      rcases Nat.mod_two_eq_zero_or_one j with e | e
      · simp [madeCells, hj, Value.cells, e, wcs, hiI_zero, loI_zero]
      · simp [madeCells, hj, Value.cells, e, wcs, hiI_zero, loI_zero]
    · rw [List.getElem?_eq_none (by simp [madeCells]; omega), List.getElem?_eq_none (by rw [wvs_length]; omega)]
  rw [e] at ho
  exact (ar_of ho).1

theorem eqlW (a b c d : Int) (w : World) : (binOp .eql 31 (.agg #[.int .u64 a, .int .u64 b]) (.agg #[.int .u64 c, .int .u64 d])).run Try.prog w = .ok (.bool (wEq a b c d)) w := by
  unfold wEq
  by_cases h1 : a = c
  · subst h1
    by_cases h2 : b = d
    · subst h2
      simp [go_sem]
    · simp [go_sem, h2]
  · simp [go_sem, h1]
theorem neqW (a b c d : Int) (w : World) : (binOp .neq 31 (.agg #[.int .u64 a, .int .u64 b]) (.agg #[.int .u64 c, .int .u64 d])).run Try.prog w = .ok (.bool (!wEq a b c d)) w := by
  unfold wEq
  by_cases h1 : a = c
  · subst h1
    by_cases h2 : b = d
    · subst h2
      simp [go_sem]
    · simp [go_sem, h2]
  · simp [go_sem, h1]
end Go.Proofs.Ytciidjhadijhdaa.D
