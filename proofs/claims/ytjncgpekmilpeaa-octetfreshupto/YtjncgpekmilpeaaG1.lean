import Derived.Test.YtjncgpekmilpeaaE4
import Derived.Test.YtjncgpekmilpeaaLR
namespace Go.Proofs.Ytjncgpekmilpeaa
open Go.RowKit
set_option linter.unusedVariables false

theorem mask62 (o : Int) : 0 ≤ bits .and .i64 o 4611686018427387903 ∧ bits .and .i64 o 4611686018427387903 ≤ 4611686018427387904 := by
  have hx : (BitVec.ofInt 64 o &&& BitVec.ofInt 64 4611686018427387903).toNat < 2 ^ 62 := by
    rw [BitVec.toNat_and]
    have : (BitVec.ofInt 64 4611686018427387903).toNat = 2 ^ 62 - 1 := by decide
    rw [this, Nat.and_two_pow_sub_one_eq_mod]
    exact Nat.mod_lt _ (by decide)
  show 0 ≤ IntKind.i64.wrap ((BitVec.ofInt 64 o &&& BitVec.ofInt 64 4611686018427387903).toNat : Int) ∧ IntKind.i64.wrap ((BitVec.ofInt 64 o &&& BitVec.ofInt 64 4611686018427387903).toNat : Int) ≤ _
  generalize (BitVec.ofInt 64 o &&& BitVec.ofInt 64 4611686018427387903).toNat = q at *
  rw [IntKind.wrap_i64]
  omega
/-- The item with its object number brought into what may be. -/
def It.mk62 (t : It) : It := { t with o := bits .and .i64 t.o 4611686018427387903 }
theorem It.laid62 (t : It) : t.mk62.Laid := ⟨(mask62 t.o).1, (mask62 t.o).2⟩
theorem It.good62 {t : It} {w : World} (h : t.Good w) : t.mk62.Good w := ⟨h.v, h.hi, h.lo, h.row⟩
/-- The bytes of d items from the i-th on. -/
def encR (g : Nat → It) : Nat → Nat → List Nat
  | _, 0 => []
  | i, d + 1 => (g i).enc ++ encR g (i + 1) d
theorem encR_snoc (g : Nat → It) (i d : Nat) : encR g i (d + 1) = encR g i d ++ (g (i + d)).enc := by
  induction d generalizing i with
  | zero => simp [encR]
  | succ d ih =>
    rw [encR, ih (i + 1), encR, ← List.append_assoc]
    congr 3
    omega
theorem encR_cons (g : Nat → It) (i m : Nat) (h : i < m) : encR g i (m - i) = (g i).enc ++ encR g (i + 1) (m - (i + 1)) := by
  have : m - i = (m - (i + 1)) + 1 := by omega
  rw [this, encR]
theorem enc_len (t : It) (w : World) (h : t.Good w) : t.enc.length ≤ t.n + 24 := by
  have hl := h.row.len
  unfold It.enc
  repeat' split
  all_goals simp [leL_length]
  omega
theorem encR_len (g : Nat → It) (w : World) (m B : Nat) (h : ∀ j, j < m → (g j).Good w) (hB : ∀ j, j < m → (g j).n ≤ B) : ∀ d, d ≤ m → (encR g 0 d).length ≤ d * (B + 24) := by
  intro d
  induction d with
  | zero => intro _; simp [encR]
  | succ d ih =>
    intro hd
    rw [encR_snoc, List.length_append, Nat.zero_add]
    have h1 := ih (by omega)
    have h2 := enc_len (g d) w (h d (by omega))
    have h3 := hB d (by omega)
    rw [Nat.succ_mul]
    omega
/-- An array of items in block b. -/
def Arr (w : World) (b m : Nat) (f : Nat → It) : Prop := ∀ i, i < m → IBox w b (i * 6) (f i) ∧ w.frozen? ⟨b, i * 6 + 2, none⟩ = false
def mixF (f : Nat → It) (i j : Nat) : It := if j < i then (f j).mk62 else f j
theorem mixF_at (f : Nat → It) (i : Nat) : mixF f i i = f i := by unfold mixF; rw [if_neg (by omega)]
theorem mixF_done (f : Nat → It) (i : Nat) : mixF f (i + 1) i = (f i).mk62 := by unfold mixF; rw [if_pos (by omega)]
theorem mixF_all (f : Nat → It) (m j : Nat) (h : j < m) : mixF f m j = (f j).mk62 := by unfold mixF; rw [if_pos h]
theorem Arr.but {S : Nat → Prop} {w w' : World} {b m : Nat} {f : Nat → It} (hb : But S w w') (h : Arr w b m f) (hn : ¬ S b) : Arr w' b m f := by
  intro i hi
  obtain ⟨h1, h2⟩ := h i hi
  have hk := hb.block b (World.block_lt_of_cell? _ _ h1.c0) hn
  exact ⟨h1.but hb hn, by rw [World.frozen?_of_block (w := w) hk]; exact h2⟩
theorem Arr.later {w w' : World} {b m : Nat} {f : Nat → It} (hb : Below w.heap.size w w') (h : Arr w b m f) : Arr w' b m f := h.but (S := fun _ => False) (But.of hb) (fun h => h)
theorem cell_set_ne {w : World} {b o o' : Nat} {v u : Value} (h : w.cell? ⟨b, o, none⟩ = some v) (hne : o' ≠ o) : (w.setCell ⟨b, o', none⟩ u).cell? ⟨b, o, none⟩ = some v := by
  rw [World.cell?_setCell_other _ _ _ _ (fun e => hne (by simpa using congrArg Addr.off e))]
  exact h
theorem Arr.step {w : World} {b m : Nat} {f : Nat → It} {i : Nat} (h : Arr w b m (mixF f i)) (hi : i < m) : Arr (w.setCell ⟨b, i * 6 + 2, none⟩ (.int .i64 (bits .and .i64 (f i).o 4611686018427387903))) b m (mixF f (i + 1)) := by
  intro j hj
  obtain ⟨h1, h2⟩ := h j hj
  refine ⟨?_, by simpa using h2⟩
  by_cases e : j = i
  · subst e
    rw [mixF_at] at h1
    rw [mixF_done]
    exact ⟨cell_set_ne h1.c0 (by omega), cell_set_ne h1.c1 (by omega), World.cell?_setCell_same _ _ _ h1.c2, cell_set_ne h1.c3 (by omega), cell_set_ne h1.c4 (by omega), cell_set_ne h1.c5 (by omega)⟩
  · have e2 : mixF f (i + 1) j = mixF f i j := by
      unfold mixF
      by_cases hlt : j < i
      · rw [if_pos hlt, if_pos (by omega)]
      · rw [if_neg hlt, if_neg (by omega)]
    rw [e2]
    exact ⟨cell_set_ne h1.c0 (by omega), cell_set_ne h1.c1 (by omega), cell_set_ne h1.c2 (by omega), cell_set_ne h1.c3 (by omega), cell_set_ne h1.c4 (by omega), cell_set_ne h1.c5 (by omega)⟩

theorem info51 : (Try.prog.info? 51).map (fun i => (i.zero, i.size, i.bytes)) = some (some (.agg #[.int .i64 0, .int .u64 0, .int .i64 0, .int .u64 0, .int .u64 0, .slice none 0 0]), 6, 64) := by kernel_rfl
/-- The items' cells, one behind the other. -/
def ivs (f : Nat → It) (k : Nat) : List Value := (List.range k).flatMap fun i => (f i).cs
theorem cs_length (t : It) : t.cs.length = 6 := rfl
theorem ivs_succ (f : Nat → It) (k : Nat) : ivs f (k + 1) = ivs f k ++ (f k).cs := by simp [ivs, List.range_succ]
theorem ivs_length (f : Nat → It) (k : Nat) : (ivs f k).length = k * 6 := by
  induction k with
  | zero => rfl
  | succ k ih => rw [ivs_succ, List.length_append, ih, cs_length, Nat.succ_mul]
theorem ivs_get (f : Nat → It) (k i c : Nat) (hi : i < k) (hc : c < 6) : (ivs f k)[i * 6 + c]? = (f i).cs[c]? := by
  induction k with
  | zero => omega
  | succ k ih =>
    rw [ivs_succ]
    by_cases h : i < k
    · rw [List.getElem?_append_left (by rw [ivs_length]; omega)]
      exact ih h
    · obtain rfl : i = k := by omega
      rw [List.getElem?_append_right (by rw [ivs_length]; omega), ivs_length]
      congr 1
      omega
theorem ivs_one (f : Nat → It) (k : Nat) : ∀ u ∈ ivs f k, u.oneCell' = true := by
  intro u hu
  simp only [ivs, List.mem_flatMap] at hu
  obtain ⟨i, _, hu⟩ := hu
  simp only [It.cs, List.mem_cons, List.not_mem_nil, or_false] at hu
  rcases hu with rfl | rfl | rfl | rfl | rfl | rfl <;> rfl
/-- The items as they came in. -/
structure Items (w : World) (x : Option Addr) (k cap : Nat) (f : Nat → It) : Prop where
  cap_ : k ≤ cap
  none_ : x = none → k = 0 ∧ cap = 0
  cells : ∀ y, x = some y → ∀ j u, (ivs f k)[j]? = some u → w.cell? (y.add j) = some u
theorem arr_of {w : World} {base b n cap : Nat} {f : Nat → It} (h : w.ownsRow base 51 6 (.slice (some ⟨b, 0, none⟩) n cap) n (ivs f n)) : Arr w b n f ∧ base ≤ b ∧ b < w.heap.size := by
  have hb := own_block h b rfl
  have hcell : ∀ i c u, i < n → c < 6 → (f i).cs[c]? = some u → w.cell? ⟨b, i * 6 + c, none⟩ = some u := by
    intro i c u hi hc hu
    have := h.cells (g := b) rfl (i * 6 + c) u (by rw [ivs_get f n i c hi hc]; exact hu)
    rw [addr_add0] at this
    exact this
  rcases h.2 with ⟨h0, _⟩ | ⟨g, c, cur, hv, _, hh, _⟩
  · simp at h0
  · simp only [Value.slice.injEq, Option.some.injEq, Addr.mk.injEq] at hv
    obtain ⟨⟨rfl, _⟩, _⟩ := hv
    refine ⟨fun i hi => ⟨⟨hcell i 0 _ hi (by omega) rfl, hcell i 1 _ hi (by omega) rfl, hcell i 2 _ hi (by omega) rfl, hcell i 3 _ hi (by omega) rfl, hcell i 4 _ hi (by omega) rfl, hcell i 5 _ hi (by omega) rfl⟩, ?_⟩, hb, (Array.getElem?_eq_some_iff.1 hh).1⟩
    simp [World.frozen?, hh]
def lastIt : It := ⟨3, 72623859790382856, 0, 0, 0, none, 0, 0, []⟩
def withLast (f : Nat → It) (k i : Nat) : It := if i < k then f i else lastIt
theorem ivs_congr (f g : Nat → It) (k : Nat) (h : ∀ i, i < k → f i = g i) : ivs f k = ivs g k := by
  induction k with
  | zero => rfl
  | succ k ih => rw [ivs_succ, ivs_succ, ih (fun i hi => h i (by omega)), h k (by omega)]
theorem ivs_last (f : Nat → It) (k : Nat) : ivs f k ++ lastIt.cs = ivs (withLast f k) (k + 1) := by
  rw [ivs_succ]
  congr 1
  · apply ivs_congr
    intro i hi
    unfold withLast
    rw [if_pos hi]
  · unfold withLast
    rw [if_neg (by omega)]
/-- The two appends: the items in memory of their own, and one more behind them. -/
theorem items_run {w : World} {x : Option Addr} {k cap : Nat} {f : Nat → It} (h : Items w x k cap f) (hk : k ≤ 1048576) (bk : Nat) (hbk : bk = w.heap.size) :
    ∃ v1 w1, (Builtin.append_ #[49, 49] 49 #[.slice (some ⟨bk, 0, none⟩) 0 0, .slice x k cap]).run Try.prog (w.alloc (.cells #[] 51)) = .ok v1 w1 ∧ ∀ b1, b1 = w1.heap.size → ∃ gl cl w2,
      (Builtin.append_ #[49, 49] 49 #[v1, .slice (some ⟨b1, 0, none⟩) 1 1]).run Try.prog (w1.alloc (.cells #[.int .i64 3, .int .u64 72623859790382856, .int .i64 0, .int .u64 0, .int .u64 0, .slice none 0 0] 51)) = .ok (.slice (some ⟨gl, 0, none⟩) (k + 1) cl) w2 ∧
      Arr w2 gl (k + 1) (withLast f k) ∧ k + 1 ≤ cl ∧ w.heap.size ≤ gl ∧ gl < w2.heap.size ∧ Below w.heap.size w w2 := by
  subst hbk
  obtain ⟨i, hi, hz0, hz1, hz2⟩ := info_parts info51
  have o0 : (w.alloc (.cells #[] 51)).ownsRow w.heap.size 51 6 (.slice (some ⟨w.heap.size, 0, none⟩) 0 0) 0 [] := ⟨rfl, .inr ⟨_, _, _, rfl, Nat.le_refl _, heap_alloc_new w _, Nat.le_refl _, by unfold maxLen; omega, rfl, rfl⟩⟩
  obtain ⟨v1, w1, hr1, o1, g1⟩ : ∃ v1 w1, (Builtin.append_ #[49, 49] 49 #[.slice (some ⟨w.heap.size, 0, none⟩) 0 0, .slice x k cap]).run Try.prog (w.alloc (.cells #[] 51)) = .ok v1 w1 ∧ w1.ownsRow w.heap.size 51 6 v1 k (ivs f k) ∧ Below w.heap.size (w.alloc (.cells #[] 51)) w1 := by
    cases x with
    | none =>
      obtain ⟨rfl, rfl⟩ := h.none_ rfl
      exact ⟨_, _, run_append_owned_none (P := Try.prog) (w := w.alloc (.cells #[] 51)) w.heap.size 49 49 51 i 6 Try.underlying49 hi _ 0 _ o0, o0, Below.refl _ _⟩
    | some y =>
      obtain ⟨v', w', hr, h2, h3, _, _⟩ := run_append_own_at (P := Try.prog) (w.alloc (.cells #[] 51)) w.heap.size 49 49 51 i _ 6 64 Try.underlying49 hi hz0 hz1 hz2 rfl (by decide) _ 0 _ o0 y k cap (ivs f k) (ivs_length f k) (fun j u hu => cell_later (below1 _ _) (h.cells y rfl j u hu)) (ivs_one f k) (by unfold maxLen; omega) (by omega) (by simp)
      rw [Nat.zero_add] at h2
      exact ⟨v', w', hr, by simpa using h2, (Below.refl _ _).grown h3 (by simp) (own_block o0)⟩
  refine ⟨v1, w1, hr1, fun b1 hb1 => ?_⟩
  subst hb1
  have hsz := g1.size
  have o1' := own_later (below1 w1 (.cells #[.int .i64 3, .int .u64 72623859790382856, .int .i64 0, .int .u64 0, .int .u64 0, .slice none 0 0] 51)) o1
  have hnew : ∀ j u, lastIt.cs[j]? = some u → (w1.alloc (.cells #[.int .i64 3, .int .u64 72623859790382856, .int .i64 0, .int .u64 0, .int .u64 0, .slice none 0 0] 51)).cell? ((⟨w1.heap.size, 0, none⟩ : Addr).add j) = some u := by
    intro j u hu
    rw [addr_add0]
    have hj : j < 6 := (List.getElem?_eq_some_iff.1 hu).1
    have : j = 0 ∨ j = 1 ∨ j = 2 ∨ j = 3 ∨ j = 4 ∨ j = 5 := by omega
    rcases this with rfl | rfl | rfl | rfl | rfl | rfl <;> (simp [It.cs, lastIt] at hu; subst hu; simp [go_sem])
  obtain ⟨v2, w2, hr2, o2, g2, _, _⟩ := run_append_own_at (P := Try.prog) (w1.alloc (.cells #[.int .i64 3, .int .u64 72623859790382856, .int .i64 0, .int .u64 0, .int .u64 0, .slice none 0 0] 51)) w.heap.size 49 49 51 i _ 6 64 Try.underlying49 hi hz0 hz1 hz2 rfl (by decide) _ k _ o1' ⟨w1.heap.size, 0, none⟩ 1 1 lastIt.cs rfl hnew (fun u hu => by
    simp only [It.cs, List.mem_cons, List.not_mem_nil, or_false] at hu
    rcases hu with rfl | rfl | rfl | rfl | rfl | rfl <;> rfl) (by unfold maxLen; omega) (by omega) (by simp at hsz ⊢; omega)
  rw [ivs_last] at o2
  obtain ⟨gl, cl, rfl⟩ : ∃ gl cl, v2 = .slice (some ⟨gl, 0, none⟩) (k + 1) cl := by
    rcases o2.2 with ⟨_, h'⟩ | ⟨g, c, cur, hv, _⟩
    · omega
    · exact ⟨g, c, hv⟩
  have hcl : k + 1 ≤ cl := by
    rcases o2.2 with ⟨_, h'⟩ | ⟨g, c, cur, hv, _, _, hc, _⟩
    · omega
    · simp only [Value.slice.injEq] at hv; omega
  obtain ⟨ha, hb1, hb2⟩ := arr_of o2
  refine ⟨gl, cl, w2, hr2, ha, hcl, hb1, hb2, ?_⟩
  have b1 : Below w.heap.size w w1 := (below1 _ _).trans g1
  exact (b1.alloc b1.size _).grown g2 (by simp at hsz ⊢; omega) (own_block o1')
end Go.Proofs.Ytjncgpekmilpeaa
