import Derived.Test.YtgdhdfmgfncdkaaVG
namespace Go.Proofs.Ytgdhdfmgfncdkaa
open Go.RowKit Go.Shelf H
set_option linter.unusedVariables false

/-! ### Lists filled one by one -/
def fillL {α : Type} (z : α) (g : Nat → α) (m : Nat) : Nat → List α
  | 0 => List.replicate m z
  | i + 1 => (fillL z g m i).set i (g i)
theorem fill_len {α : Type} (z : α) (g : Nat → α) (m : Nat) : ∀ i, (fillL z g m i).length = m
  | 0 => by simp [fillL]
  | i + 1 => by unfold fillL; rw [List.length_set]; exact fill_len z g m i
theorem fill_get {α : Type} (z : α) (g : Nat → α) (m : Nat) : ∀ i j, j < i → i ≤ m → (fillL z g m i)[j]? = some (g j)
  | 0, j, h, _ => by omega
  | i + 1, j, h, hm => by
    unfold fillL
    by_cases e : j = i
    · subst e
      rw [List.getElem?_set_self (by rw [fill_len]; omega)]
    · rw [List.getElem?_set_ne (by omega)]
      exact fill_get z g m i j (by omega) (by omega)
/-- How many ahead of k. -/
def cntF (p : Int → Bool) (k : Nat) : Nat := ((firsts k).filter p).length
theorem cntF_succ (p : Int → Bool) (k : Nat) : cntF p (k + 1) = cntF p k + (if p (k : Int) = true then 1 else 0) := by
  unfold cntF
  rw [firsts_succ, List.filter_append, List.length_append]
  congr 1
  by_cases h : p (k : Int) = true
  · rw [if_pos h]; simp [h]
  · rw [if_neg h]; simp [h]
theorem cntF_le (p : Int → Bool) (k : Nat) : cntF p k ≤ k := by
  have := List.length_filter_le p (firsts k)
  rw [firsts_len] at this
  exact this
theorem cntF_all {m : Nat} {A : List Int} (hn : A.Nodup) (hr : ∀ x ∈ A, 0 ≤ x ∧ x < (m : Int)) : cntF (fun x => decide (x ∈ A)) m = A.length := by
  refine same_len (List.Nodup.sublist List.filter_sublist (firsts_nodup m)) hn (fun x => ?_)
  rw [List.mem_filter, mem_firsts, decide_eq_true_eq]
  exact ⟨fun h => h.2, fun h => ⟨hr x h, h⟩⟩
theorem dropS_eq (X : List Tk) (l : Fo) (n : Int) : dropS ⟨X, l⟩ n = ⟨zer X (G true l n), cuts l (G true l n)⟩ := by
  unfold dropS
  by_cases h : n ∈ nums l
  · rw [if_pos h]
  · rw [if_neg h, G_out h, cuts_nil]; rfl
theorem drop_if (l : Fo) (n : Int) : (if n ∈ nums l then G true l n else []) = G true l n := by
  by_cases h : n ∈ nums l
  · rw [if_pos h]
  · rw [if_neg h, G_out h]
theorem filter_two (p : Int → Bool) : ∀ A : List Int, (A.filter p).length + (A.filter (fun x => !p x)).length = A.length
  | [] => rfl
  | a :: A => by
    have := filter_two p A
    by_cases h : p a = true
    · simp [h]; omega
    · simp [h]; omega
theorem nums_cuts_eq (l : Fo) (A : List Int) : nums (cuts l A) = (nums l).filter (fun x => !decide (x ∈ A)) := by
  unfold nums cuts
  rw [List.filter_map]
  congr 1
  refine List.filter_congr (fun x _ => ?_)
  simp [Function.comp]
/-- What is left. -/
theorem cuts_len {m : Nat} {l : Fo} (h : Ok m l) {A : List Int} (hn : A.Nodup) (hA : ∀ x ∈ A, x ∈ nums l) : (cuts l A).length + A.length = l.length := by
  have h1 := filter_two (fun x => decide (x ∈ A)) (nums l)
  have h2 : ((nums l).filter (fun x => decide (x ∈ A))).length = A.length := by
    refine same_len (List.Nodup.sublist List.filter_sublist h.nodup) hn (fun x => ?_)
    rw [List.mem_filter, decide_eq_true_eq]
    exact ⟨fun h => h.2, fun h => ⟨hA x h, h⟩⟩
  rw [← nums_cuts_eq, h2, nums_len, nums_len] at h1
  omega
/-- A token as At tells it. -/
def tokT (X : List Tk) (l : Fo) (n : Int) : Tok := if n ∈ nums l then ((tk X n).1, rg X n, par l n) else ((0, 0, 0), 0, 0)
theorem tokV_eq (X : List Tk) (l : Fo) (n : Int) : tokV X l n = .tuple #[tokA (tokT X l n).1 (tokT X l n).2.1 (tokT X l n).2.2, .bool (decide (n ∈ nums l))] := by
  unfold tokV tokT
  by_cases h : n ∈ nums l
  · rw [if_pos h, if_pos h, decide_eq_true h]
  · rw [if_neg h, if_neg h, decide_eq_false h]
theorem tokT_cut {m : Nat} {X : List Tk} {l : Fo} (h : Inv m X l) {n x : Int} (hc : Ok m (cuts l (G true l n))) (hx : x ∈ nums (cuts l (G true l n))) : tokT (zer X (G true l n)) (cuts l (G true l n)) x = tokT X l x := by
  obtain ⟨h1, h2⟩ := nums_cuts.1 hx
  obtain ⟨p, hp⟩ := mem_nums.1 h1
  have e1 : tk (zer X (G true l n)) x = tk X x := zer_tk _ X x (nums_nn h.ok h1) (fun y hy => nums_nn h.ok (G_nums h.ok hy)) h2
  unfold tokT rg
  rw [if_pos hx, if_pos h1, e1, par_eq h.ok hp, par_eq hc (mem_cuts.2 ⟨hp, h2⟩)]
theorem hasC_cut {m : Nat} {X : List Tk} {l : Fo} (h : Inv m X l) {n x : Int} (hx : x ∈ G true l n) : hasC (zer X (G true l n)) (cuts l (G true l n)) (tk X x).1 = false := by
  cases hc : hasC (zer X (G true l n)) (cuts l (G true l n)) (tk X x).1 with
  | false => rfl
  | true =>
    exfalso
    obtain ⟨y, hy, e⟩ := hasC_iff.1 hc
    obtain ⟨h1, h2⟩ := nums_cuts.1 hy
    rw [zer_tk _ X y (nums_nn h.ok h1) (fun z hz => nums_nn h.ok (G_nums h.ok hz)) h2] at e
    have := h.one y h1 x (G_nums h.ok hx) e
    rw [this] at h2
    exact h2 hx

/-! ### Tokens and booleans in arrays -/
def set5o (w : World) (b o : Nat) (c : Tok) : World :=
  ((((w.setCell ⟨b, o, none⟩ (.int .i64 c.1.1)).setCell ⟨b, o + 1, none⟩ (.int .u64 (c.1.2.1 : Int))).setCell ⟨b, o + 2, none⟩ (.int .u64 (c.1.2.2 : Int))).setCell ⟨b, o + 3, none⟩ (.int .i64 c.2.1)).setCell ⟨b, o + 4, none⟩ (.int .i64 c.2.2)
theorem set5o_but {S : Nat → Prop} {a w : World} (h : But S a w) {b : Nat} (hb : S b) (o : Nat) (c : Tok) : But S a (set5o w b o c) :=
  ((((h.setCell (p := ⟨b, o, none⟩) hb _).setCell (p := ⟨b, o + 1, none⟩) hb _).setCell (p := ⟨b, o + 2, none⟩) hb _).setCell (p := ⟨b, o + 3, none⟩) hb _).setCell (p := ⟨b, o + 4, none⟩) hb _
theorem Cet.off {w : World} {b o o' : Nat} {x : Tok} {u : Value} (h : Cet w b o x) (hne : o' < o ∨ o + 5 ≤ o') : Cet (w.setCell ⟨b, o', none⟩ u) b o x :=
  ⟨cell_ne h.c0 (by omega), cell_ne h.c1 (by omega), cell_ne h.c2 (by omega), cell_ne h.c3 (by omega), cell_ne h.c4 (by omega)⟩
theorem Cet.set {w : World} {b o : Nat} {y : Tok} (h : Cet w b o y) (x : Tok) : Cet (set5o w b o x) b o x := by
  unfold set5o
  refine ⟨?_, ?_, ?_, ?_, ?_⟩
  · exact cell_ne (cell_ne (cell_ne (cell_ne (World.cell?_setCell_same _ _ _ h.c0) (by omega)) (by omega)) (by omega)) (by omega)
  · exact cell_ne (cell_ne (cell_ne (World.cell?_setCell_same _ _ _ (cell_ne h.c1 (by omega))) (by omega)) (by omega)) (by omega)
  · exact cell_ne (cell_ne (World.cell?_setCell_same _ _ _ (cell_ne (cell_ne h.c2 (by omega)) (by omega))) (by omega)) (by omega)
  · exact cell_ne (World.cell?_setCell_same _ _ _ (cell_ne (cell_ne (cell_ne h.c3 (by omega)) (by omega)) (by omega))) (by omega)
  · exact World.cell?_setCell_same _ _ _ (cell_ne (cell_ne (cell_ne (cell_ne h.c4 (by omega)) (by omega)) (by omega)) (by omega))
theorem Cet.setOff {w : World} {b o o' : Nat} {y : Tok} (h : Cet w b o y) (x : Tok) (hne : o' + 5 ≤ o ∨ o + 5 ≤ o') : Cet (set5o w b o' x) b o y := by
  unfold set5o
  exact ((((h.off (by omega)).off (by omega)).off (by omega)).off (by omega)).off (by omega)
/-- An array of tokens. -/
structure Tw (w : World) (b m : Nat) (K : List Tok) : Prop where
  at_ : ∀ (i : Nat) (x : Tok), K[i]? = some x → Cet w b (i * 5) x
  fr : ∀ j, w.frozen? ⟨b, j, none⟩ = false
  lt : b < w.heap.size
  len : K.length = m
theorem Tw.but {S : Nat → Prop} {w w' : World} {b m : Nat} {K : List Tok} (h : Tw w b m K) (hb : But S w w') (hn : ¬ S b) : Tw w' b m K :=
  ⟨fun i x hx => (h.at_ i x hx).but hb hn, fun j => by rw [World.frozen?_of_block (w := w) (hb.block b h.lt hn)]; exact h.fr j, Nat.lt_of_lt_of_le h.lt hb.size, h.len⟩
theorem Tw.later {w w' : World} {b m : Nat} {K : List Tok} (h : Tw w b m K) (hb : Below w.heap.size w w') : Tw w' b m K := h.but (S := fun _ => False) (But.of hb) (fun h => h)
theorem Tw.set {w : World} {b m : Nat} {K : List Tok} (h : Tw w b m K) {i : Nat} (hi : i < m) (x : Tok) : Tw (set5o w b (i * 5) x) b m (K.set i x) := by
  obtain ⟨y, hy⟩ := get_some (L := K) (i := i) (by rw [h.len]; exact hi)
  have hb : But (· = b) w (set5o w b (i * 5) x) := set5o_but (S := (· = b)) (But.refl _ _) rfl _ _
  refine ⟨fun j z hz => ?_, fun j => by simpa [set5o] using h.fr j, Nat.lt_of_lt_of_le h.lt hb.size, by rw [List.length_set]; exact h.len⟩
  rcases Go.Proofs.Ytgdhdfmgfncdkaa.get_set hz with ⟨rfl, rfl⟩ | ⟨hne, h3⟩
  · exact (h.at_ _ y hy).set _
  · exact (h.at_ _ _ h3).setOff _ (by omega)
def tok0 : Tok := ((0, 0, 0), 0, 0)
theorem make_toks (w : World) (n : Nat) (hn : n ≤ 1024) :
    ∃ w', (Instr.makeSlice 27 (.int .i64 (n : Int)) (.int .i64 (n : Int))).run Try.prog w = .ok (.slice (some ⟨w.heap.size, 0, none⟩) n n) w' ∧ Tw w' w.heap.size n (List.replicate n tok0) ∧ Below w.heap.size w w' := by
  obtain ⟨i, hi, hz0, hz1, hz2⟩ := info_parts info35
  obtain ⟨w', hr, ho, hg⟩ := run_make_full (P := Try.prog) w w.heap.size 27 35 i _ 5 Try.underlying27 hi hz0 hz1 .i64 .i64 n (by rw [hz2]; omega) (by unfold maxLen; omega) (Nat.le_refl _)
  have hcell : ∀ j c u, j < n → c < 5 → (#[.int .i64 0, .int .u64 0, .int .u64 0, .int .i64 0, .int .i64 0] : Array Value)[c]! = u → w'.cell? ⟨w.heap.size, j * 5 + c, none⟩ = some u := by
    intro j c u hj hc hu
    have hm : (j * 5 + c) % 5 = c := by omega
    have := ho.cells (g := w.heap.size) rfl (j * 5 + c) u (by
      rw [Array.getElem?_toList]
      simp only [madeCells, Value.cells, Array.getElem?_map, Array.getElem?_range]
      rw [if_pos (by omega)]
      simp only [Option.map_some, Option.some.injEq, Array.size, List.length, hm]
      exact hu)
    rw [addr_add0] at this
    exact this
  refine ⟨w', hr, ⟨fun j p hp => ?_, fun j => ?_, (own_block ho _ rfl).2, by simp⟩, (Below.refl _ _).grown hg (Nat.le_refl _) (fun k hk => by cases hk)⟩
  · rw [List.getElem?_replicate] at hp
    split at hp
    · next hj =>
      have := (Option.some.inj hp).symm
      subst this
      exact ⟨hcell j 0 _ hj (by omega) rfl, hcell j 1 _ hj (by omega) rfl, hcell j 2 _ hj (by omega) rfl, hcell j 3 _ hj (by omega) rfl, hcell j 4 _ hj (by omega) rfl⟩
    · cases hp
  · rcases ho.2 with ⟨h0, _⟩ | ⟨g, c, cur, hv, _, hh, hc, _⟩
    · simp at h0
    · simp only [Value.slice.injEq, Option.some.injEq, Addr.mk.injEq] at hv
      obtain ⟨⟨rfl, _⟩, _, rfl⟩ := hv
      simp [World.frozen?, hh]
/-- An array of booleans. -/
structure Bw (w : World) (b m : Nat) (K : List Bool) : Prop where
  at_ : ∀ (i : Nat) (x : Bool), K[i]? = some x → w.cell? ⟨b, i, none⟩ = some (.bool x)
  fr : ∀ j, w.frozen? ⟨b, j, none⟩ = false
  lt : b < w.heap.size
  len : K.length = m
theorem Bw.but {S : Nat → Prop} {w w' : World} {b m : Nat} {K : List Bool} (h : Bw w b m K) (hb : But S w w') (hn : ¬ S b) : Bw w' b m K :=
  ⟨fun i x hx => cell_but hb (h.at_ i x hx) hn, fun j => by rw [World.frozen?_of_block (w := w) (hb.block b h.lt hn)]; exact h.fr j, Nat.lt_of_lt_of_le h.lt hb.size, h.len⟩
theorem Bw.later {w w' : World} {b m : Nat} {K : List Bool} (h : Bw w b m K) (hb : Below w.heap.size w w') : Bw w' b m K := h.but (S := fun _ => False) (But.of hb) (fun h => h)
theorem Bw.set {w : World} {b m : Nat} {K : List Bool} (h : Bw w b m K) {i : Nat} (hi : i < m) (x : Bool) : Bw (w.setCell ⟨b, i, none⟩ (.bool x)) b m (K.set i x) := by
  obtain ⟨y, hy⟩ := get_some (L := K) (i := i) (by rw [h.len]; exact hi)
  refine ⟨fun j z hz => ?_, fun j => by simpa using h.fr j, by simpa using h.lt, by rw [List.length_set]; exact h.len⟩
  rcases Go.Proofs.Ytgdhdfmgfncdkaa.get_set hz with ⟨rfl, rfl⟩ | ⟨hne, h3⟩
  · exact World.cell?_setCell_same _ _ _ (h.at_ _ y hy)
  · exact cell_ne (h.at_ _ _ h3) (by omega)
theorem info4 : (Try.prog.info? 4).map (fun i => (i.zero, i.size, i.bytes)) = some (some (.bool false), 1, 1) := by kernel_rfl
theorem make_bools (w : World) (n : Nat) (hn : n ≤ 1024) :
    ∃ w', (Instr.makeSlice 28 (.int .i64 (n : Int)) (.int .i64 (n : Int))).run Try.prog w = .ok (.slice (some ⟨w.heap.size, 0, none⟩) n n) w' ∧ Bw w' w.heap.size n (List.replicate n false) ∧ Below w.heap.size w w' := by
  obtain ⟨i, hi, hz0, hz1, hz2⟩ := info_parts info4
  obtain ⟨w', hr, ho, hg⟩ := run_make_full (P := Try.prog) w w.heap.size 28 4 i _ 1 Try.underlying28 hi hz0 hz1 .i64 .i64 n (by rw [hz2]; omega) (by unfold maxLen; omega) (Nat.le_refl _)
  refine ⟨w', hr, ⟨fun j p hp => ?_, fun j => ?_, (own_block ho _ rfl).2, by simp⟩, (Below.refl _ _).grown hg (Nat.le_refl _) (fun k hk => by cases hk)⟩
  · rw [List.getElem?_replicate] at hp
    split at hp
    · next hj =>
      have := (Option.some.inj hp).symm
      subst this
      have := ho.cells (g := w.heap.size) rfl j (.bool false) (by
        rw [Array.getElem?_toList]
        simp only [madeCells, Value.cells, Array.getElem?_map, Array.getElem?_range, Nat.mul_one]
        rw [if_pos hj]
        simp [Nat.mod_one])
      rw [addr_add0] at this
      exact this
    · cases hp
  · rcases ho.2 with ⟨h0, _⟩ | ⟨g, c, cur, hv, _, hh, hc, _⟩
    · simp at h0
    · simp only [Value.slice.injEq, Option.some.injEq, Addr.mk.injEq] at hv
      obtain ⟨⟨rfl, _⟩, _, rfl⟩ := hv
      simp [World.frozen?, hh]
/-- Rights that grow nowhere. -/
theorem i64_or_nat (a b : Nat) (ha : a < 32) (hb : b < 32) : bits .or .i64 (a : Int) (b : Int) = ((a ||| b : Nat) : Int) := by
  have hx : a ||| b < 2 ^ 5 := Nat.or_lt_two_pow (by omega) (by omega)
  show IntKind.i64.wrap ((BitVec.ofInt 64 (a : Int) ||| BitVec.ofInt 64 (b : Int)).toNat : Int) = _
  rw [BitVec.toNat_or, BitVec.ofInt_natCast, BitVec.ofInt_natCast, BitVec.toNat_ofNat, BitVec.toNat_ofNat, Nat.mod_eq_of_lt (a := a) (by omega), Nat.mod_eq_of_lt (a := b) (by omega), IntKind.wrap_i64]
  omega
theorem or_of_and : ∀ a, a < 32 → ∀ b, b < 32 → (decide (a &&& b = a)) = decide (a ||| b = b) := by decide +kernel
theorem or_comm_nat (a b : Nat) : a ||| b = b ||| a := Nat.or_comm a b
theorem part_or {r p : Int} (h : partB r p = true) : bits .or .i64 p r = p := by
  unfold partB at h
  simp only [Bool.and_eq_true, decide_eq_true_eq] at h
  obtain ⟨⟨h1, h2⟩, h3⟩ := h
  obtain ⟨n, rfl, _, hn⟩ := valid_nat h1
  obtain ⟨m, rfl, _, hm⟩ := valid_nat h2
  have h4 := or_of_and n hn m hm
  simp only [Int.toNat_natCast] at h3
  rw [decide_eq_true h3] at h4
  have h5 := of_decide_eq_true h4.symm
  rw [i64_or_nat m n hm hn, or_comm_nat, h5]
end Go.Proofs.Ytgdhdfmgfncdkaa
