import Derived.Test.YtlkjieophdabpaaF1
namespace Go.Proofs.Ytlkjieophdabpaa
open Go.RowKit
set_option linter.unusedVariables false
set_option linter.unusedSimpArgs false

/-- K lists, each in memory of its own. -/
structure Fam (w : World) (K : Nat) (a : Nat → Option Addr) (N C : Nat → Nat) (L : Nat → List Int) : Prop where
  own : ∀ q, q < K → Own w 0 3 (a q) (N q) (C q) (ints (L q))
  inj : ∀ q r, q < K → r < K → q ≠ r → ∀ k, Blk (a q) k → ¬ Blk (a r) k
  small : ∀ q, q < K → N q ≤ 40
def Bs (K : Nat) (a : Nat → Option Addr) (k : Nat) : Prop := ∃ q, q < K ∧ Blk (a q) k
theorem Fam.but {S : Nat → Prop} {w w' : World} {K : Nat} {a : Nat → Option Addr} {N C : Nat → Nat} {L : Nat → List Int} (hb : But S w w') (h : Fam w K a N C L) (hn : ∀ q, q < K → ∀ k, Blk (a q) k → ¬ S k) : Fam w' K a N C L :=
  ⟨fun q hq => (h.own q hq).but hb (hn q hq), h.inj, h.small⟩
theorem Fam.later {w w' : World} {K : Nat} {a : Nat → Option Addr} {N C : Nat → Nat} {L : Nat → List Int} (hb : Below w.heap.size w w') (h : Fam w K a N C L) : Fam w' K a N C L := h.but (S := fun _ => False) (But.of hb) (fun _ _ _ _ h => h)
theorem Fam.congr {w : World} {K : Nat} {a : Nat → Option Addr} {N C : Nat → Nat} {L M : Nat → List Int} (h : Fam w K a N C L) (e : ∀ q, q < K → L q = M q) : Fam w K a N C M := ⟨fun q hq => by rw [← e q hq]; exact h.own q hq, h.inj, h.small⟩
theorem Fam.len {w : World} {K : Nat} {a : Nat → Option Addr} {N C : Nat → Nat} {L : Nat → List Int} (h : Fam w K a N C L) {q : Nat} (hq : q < K) : (L q).length = N q := by
  have := (h.own q hq).len
  rwa [ints_length] at this
theorem Fam.lt {w : World} {K : Nat} {a : Nat → Option Addr} {N C : Nat → Nat} {L : Nat → List Int} (h : Fam w K a N C L) : ∀ q, q < K → ∀ k, Blk (a q) k → k < w.heap.size := fun q hq => (h.own q hq).lt
theorem Fam.set {w : World} {K : Nat} {a : Nat → Option Addr} {N C : Nat → Nat} {L M : Nat → List Int} {i j g : Nat} {v : Int} (h : Fam w K a N C L) (hi : i < K) (hg : a i = some ⟨g, 0, none⟩) (hM : ∀ q, q < K → M q = if q = i then (L i).set j v else L q) : Fam (w.setCell ⟨g, j, none⟩ (.int .i64 v)) K a N C M := by
  refine ⟨fun q hq => ?_, h.inj, h.small⟩
  rw [hM q hq]
  by_cases e : q = i
  · subst e
    rw [if_pos rfl]
    have := h.own q hq
    rw [hg] at this ⊢
    exact this.set
  · rw [if_neg e]
    exact (h.own q hq).but ((But.refl (· = g) w).setCell (p := ⟨g, j, none⟩) (show g = g from rfl) _) (fun k hk e2 => h.inj q i hq hi e k hk (by rw [hg, e2]; exact ⟨_, rfl, rfl⟩))
theorem Fam.lies {w : World} {K : Nat} {a : Nat → Option Addr} {N C : Nat → Nat} {L : Nat → List Int} (h : Fam w K a N C L) {i j : Nat} (hi : i < K) (hj : j < N i) : ∃ g v, a i = some ⟨g, 0, none⟩ ∧ Lies w ⟨g, j, none⟩ (.int .i64 v) := by
  obtain ⟨g, hg⟩ := (h.own i hi).form (by omega)
  have ho := h.own i hi
  rw [hg] at ho
  obtain ⟨g2, e2, hL⟩ := ho.lies rfl (ints_get (L i) j (by rw [h.len hi]; exact hj))
  cases e2
  exact ⟨g, _, hg, hL⟩
/-- The mark of a list. -/
def mk (q : Nat) : Int := -100 - (q : Int)
def Lw (N : Nat → Nat) (L : Nat → List Int) (i : Nat) : Nat → List Int := fun q => if q < i then List.replicate (N q) (mk q) else L q
def Lj (N : Nat → Nat) (L : Nat → List Int) (i j : Nat) : Nat → List Int := fun q => if q = i then List.replicate j (mk i) ++ (L i).drop j else Lw N L i q
theorem Lj_zero (N : Nat → Nat) (L : Nat → List Int) (i q : Nat) : Lj N L i 0 q = Lw N L i q := by
  unfold Lj Lw
  by_cases e : q = i
  · subst e; simp
  · simp [e]
theorem Lj_next (N : Nat → Nat) (L : Nat → List Int) (i j q : Nat) (hj : j < (L i).length) : Lj N L i (j + 1) q = if q = i then (Lj N L i j i).set j (mk i) else Lj N L i j q := by
  unfold Lj
  by_cases e : q = i
  · simp only [e, if_true]
    rw [List.set_append_right _ _ (by simp), List.length_replicate, Nat.sub_self, List.drop_eq_getElem_cons hj, List.set_cons_zero, List.replicate_succ']
    simp
  · simp [e]
theorem Lj_done (N : Nat → Nat) (L : Nat → List Int) (i q : Nat) (hl : (L i).length = N i) : Lj N L i (N i) q = Lw N L (i + 1) q := by
  unfold Lj Lw
  by_cases e : q = i
  · subst e
    rw [if_pos rfl, if_pos (by omega), List.drop_of_length_le (by omega), List.append_nil]
  · rw [if_neg e]
    by_cases e2 : q < i
    · rw [if_pos e2, if_pos (by omega)]
    · rw [if_neg e2, if_neg (by omega)]
def ApRel1 (w : World) (K : Nat) (v : Value) (w' : World) : Prop := ∃ (i k : Nat), v = .int .i64 (i : Int) ∧ i ≤ K ∧ w' = w.drewN k
def ApRel2 (w : World) (K : Nat) (a : Nat → Option Addr) (N C : Nat → Nat) (L : Nat → List Int) (v : Value) (w' : World) : Prop := ∃ i : Nat, v = .int .i64 (i : Int) ∧ i ≤ K ∧ Fam w' K a N C (Lw N L i) ∧ But (Bs K a) w w'
def ApRel3 (w : World) (K : Nat) (a : Nat → Option Addr) (N C : Nat → Nat) (L : Nat → List Int) (i : Nat) (v : Value) (w' : World) : Prop := ∃ j : Nat, v = .int .i64 (j : Int) ∧ j ≤ N i ∧ Fam w' K a N C (Lj N L i j) ∧ But (Bs K a) w w'
theorem info22 : (Try.prog.info? 22).map (fun i => (i.zero, i.size, i.bytes)) = some (some (.slice none 0 0), 1, 24) := by kernel_rfl
def ent (N : Nat → Nat) (AA : Nat → Option Addr) (CC : Nat → Nat) (q : Nat) : Value := .slice (AA q) (N q + 80) (CC q)
def ApRel4 (w4 : World) (K : Nat) (a : Nat → Option Addr) (N C : Nat → Nat) (s v : Value) (w' : World) : Prop :=
  ∃ (i : Nat) (ma : Option Addr) (mc : Nat) (AA : Nat → Option Addr) (CC : Nat → Nat), s = .slice ma i mc ∧ v = .int .i64 (i : Int) ∧ i ≤ K ∧
    Own w' w4.heap.size 22 ma i mc ((List.range i).map (ent N AA CC)) ∧
    (∀ q, q < i → Row w' (AA q) (N q + 80) (CC q) (ints (List.replicate (N q + 80) (mk q))) ∧ ∀ k, Blk (AA q) k → (Blk (a q) k ∨ w4.heap.size ≤ k) ∧ k < w'.heap.size ∧ ¬ Blk ma k) ∧
    (∀ q, q < K → Row w' (a q) (N q) (C q) (ints (List.replicate (N q) (mk q)))) ∧
    (∀ q, i ≤ q → q < K → Own w' 0 3 (a q) (N q) (C q) (ints (List.replicate (N q) (mk q)))) ∧
    But (Bs K a) w4 w'
theorem ent_next (N : Nat → Nat) (AA : Nat → Option Addr) (CC : Nat → Nat) (i : Nat) (a : Option Addr) (c : Nat) :
    (List.range (i + 1)).map (ent N (fun q => if q = i then a else AA q) (fun q => if q = i then c else CC q)) = (List.range i).map (ent N AA CC) ++ [.slice a (N i + 80) c] := by
  rw [List.range_succ, List.map_append]
  congr 1
  · refine List.map_congr_left fun q hq => ?_
    have : q ≠ i := by have := List.mem_range.1 hq; omega
    simp [ent, this]
  · simp [ent]
/-- One list more is grown and put beside the others. -/
theorem ApRel4.next {w4 w' w1 : World} {K : Nat} {a : Nat → Option Addr} {N C : Nat → Nat} {i : Nat} {ma : Option Addr} {mc : Nat} {AA : Nat → Option Addr} {CC : Nat → Nat} (hb4 : ∀ q, q < K → ∀ k, Blk (a q) k → k < w4.heap.size) (hinj : ∀ q r, q < K → r < K → q ≠ r → ∀ k, Blk (a q) k → ¬ Blk (a r) k) (hK : K ≤ 40) (hN : ∀ q, q < K → N q ≤ 40) (hi : i < K)
    (hO : Own w' w4.heap.size 22 ma i mc ((List.range i).map (ent N AA CC)))
    (hA : ∀ q, q < i → Row w' (AA q) (N q + 80) (CC q) (ints (List.replicate (N q + 80) (mk q))) ∧ ∀ k, Blk (AA q) k → (Blk (a q) k ∨ w4.heap.size ≤ k) ∧ k < w'.heap.size ∧ ¬ Blk ma k)
    (hL : ∀ q, q < K → Row w' (a q) (N q) (C q) (ints (List.replicate (N q) (mk q))))
    (hG : ∀ q, i ≤ q → q < K → Own w' 0 3 (a q) (N q) (C q) (ints (List.replicate (N q) (mk q))))
    (hB : But (Bs K a) w4 w') {a' : Option Addr} {c' : Nat} (h1 : Own w1 0 3 a' (N i + 80) c' (ints (List.replicate (N i) (mk i) ++ List.replicate 80 (mk i)))) (h2 : Gr (a i) a' w' w1)
    (h3 : Row w1 (a i) (N i) (C i) (ints (List.replicate (N i) (mk i)))) :
    ∃ ma' mc' w3, (Builtin.append_ #[37, 37] 37 #[.slice ma i mc, .slice (some ⟨w1.heap.size, 0, none⟩) 1 1]).run Try.prog (w1.alloc (Obj.cells #[.slice a' (N i + 80) c'] 22)) = .ok (.slice ma' (i + 1) mc') w3 ∧
      ApRel4 w4 K a N C (.slice ma' (i + 1) mc') (.int .i64 ((i + 1 : Nat) : Int)) w3 := by
  have hs1 := hB.size
  have hs2 := h2.but.size
  have hma : ∀ k, Blk ma k → w4.heap.size ≤ k ∧ k < w'.heap.size := fun k hk => ⟨hO.blk k hk, hO.lt k hk⟩
  have hb4i := hb4 i hi
  have hO1 := (hO.but h2.but (fun k hk e => by have := hma k hk; have := hb4i k e; omega)).alloc (Obj.cells #[.slice a' (N i + 80) c'] 22)
  obtain ⟨ma', mc', w3, hrun, hO3, hG3⟩ := append_gen 37 22 _ 24 Try.underlying37 info22 rfl hO1 (Row.single w1 22 (.slice a' (N i + 80) c') rfl) (by simp; omega) (by omega) (by omega)
  have hs3 := hG3.but.size
  simp at hs3
  have step : ∀ (x : Option Addr) (m c : Nat) (V : List Value), Row w1 x m c V → (∀ k, Blk x k → ¬ Blk ma k) → Row w3 x m c V := fun x m c V hx hn => (hx.alloc _).but hG3.but hn
  refine ⟨ma', mc', w3, hrun, i + 1, ma', mc', fun q => if q = i then a' else AA q, fun q => if q = i then c' else CC q, rfl, rfl, by omega, by rw [ent_next]; exact hO3, fun q hq => ?_, fun q hq => ?_, fun q hq1 hq2 => ?_, ?_⟩
  · by_cases e : q = i
    · subst e
      simp only [if_true]
      have hnm : ∀ k, Blk a' k → ¬ Blk ma k := fun k hk hm => by
        have := hma k hm
        rcases h2.on k hk with e | e
        · have := hb4i k e; omega
        · omega
      refine ⟨step _ _ _ _ (by have := h1.read; rwa [List.replicate_append_replicate] at this) hnm, fun k hk => ⟨?_, ?_, fun hm => ?_⟩⟩
      · rcases h2.on k hk with e | e
        · exact .inl e
        · exact .inr (by omega)
      · have := h1.lt k hk; omega
      · rcases hG3.on k hm with e | e
        · exact hnm k hk e
        · have := h1.lt k hk
          simp at e
          omega
    · have hqi : q < i := by omega
      obtain ⟨hr, hk⟩ := hA q hqi
      simp only [e, if_false]
      refine ⟨step _ _ _ _ (hr.but h2.but (fun k hk2 e2 => ?_)) (fun k hk2 => (hk k hk2).2.2), fun k hk2 => ⟨(hk k hk2).1, by have := (hk k hk2).2.1; omega, fun hm => ?_⟩⟩
      · rcases (hk k hk2).1 with e3 | e3
        · exact hinj q i (by omega) hi e k e3 e2
        · have := hb4i k e2; omega
      · rcases hG3.on k hm with e3 | e3
        · exact (hk k hk2).2.2 e3
        · have := (hk k hk2).2.1
          simp at e3
          omega
  · have hn : ∀ k, Blk (a q) k → ¬ Blk ma k := fun k hk hm => by have := hma k hm; have := hb4 q hq k hk; omega
    by_cases e : q = i
    · subst e
      exact step _ _ _ _ h3 hn
    · exact step _ _ _ _ ((hL q hq).but h2.but (fun k hk e2 => hinj q i hq hi e k hk e2)) hn
  · have hn : ∀ k, Blk (a q) k → ¬ Blk ma k := fun k hk hm => by have := hma k hm; have := hb4 q hq2 k hk; omega
    have e : q ≠ i := by omega
    exact (((hG q (by omega) hq2).but h2.but (fun k hk e2 => hinj q i hq2 hi e k hk e2)).alloc _).but hG3.but hn
  · exact ((hB.trans (h2.but.mono (fun k hk => ⟨i, hi, hk⟩))).alloc _).comp hG3.but (fun k hk => .inr (hma k hk).1)
end Go.Proofs.Ytlkjieophdabpaa
