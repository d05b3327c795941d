import Derived.Test.YtfcfacchppkmdaaF1
namespace Go.Proofs.Ytfcfacchppkmdaa
open Go.RowKit
set_option linter.unusedVariables false
set_option linter.unusedSimpArgs false

theorem numbers_q (a b : Option Addr) (n m ca cb : Nat) (A : List Int) (w : World) (hA : Row w a n ca (ints A)) (hB : Row w b m cb (ints A)) (hn : n < 9223372036854775807) :
    Calls Try.prog 17 #[.slice a n ca, .slice b m cb] w fun e w' => e = .returned (.bool true) ∧ ∃ k, w' = w.drewN k := by
  refine (numbers_any a b n m ca cb A A w hA hB hn).mono ?_
  rintro e w' ⟨rfl, k, rfl⟩
  exact ⟨by rw [decide_eq_true rfl], k, rfl⟩
/-- Four lists, each in a block of its own. -/
structure Four (w : World) (b N C : Nat → Nat) (L : Nat → List Int) : Prop where
  gro : ∀ q, q < 4 → Gro w 0 (some ⟨b q, 0, none⟩) (N q) (C q) (ints (L q))
  soft : ∀ q, q < 4 → ∀ j, w.frozen? ⟨b q, j, none⟩ = false
  lt : ∀ q, q < 4 → b q < w.heap.size
  inj : ∀ q r, q < 4 → r < 4 → b q = b r → q = r
  small : ∀ q, q < 4 → N q ≤ 40
theorem Four.but {S : Nat → Prop} {w w' : World} {b N C : Nat → Nat} {L : Nat → List Int} (hb : But S w w') (h : Four w b N C L) (hn : ∀ q, q < 4 → ¬ S (b q)) : Four w' b N C L :=
  ⟨fun q hq => (h.gro q hq).but hb (fun k hk => by rw [blk_at hk]; exact hn q hq), fun q hq j => by
    have e : w'.frozen? ⟨b q, j, none⟩ = w.frozen? ⟨b q, j, none⟩ := World.frozen?_of_block (hb.block _ (h.lt q hq) (hn q hq))
    rw [e]; exact h.soft q hq j, fun q hq => Nat.lt_of_lt_of_le (h.lt q hq) hb.size, h.inj, h.small⟩
theorem Four.later {w w' : World} {b N C : Nat → Nat} {L : Nat → List Int} (hb : Below w.heap.size w w') (h : Four w b N C L) : Four w' b N C L := h.but (S := fun _ => False) (But.of hb) (fun _ _ h => h)
theorem Four.congr {w : World} {b N C : Nat → Nat} {L M : Nat → List Int} (h : Four w b N C L) (e : ∀ q, q < 4 → L q = M q) : Four w b N C M := ⟨fun q hq => by rw [← e q hq]; exact h.gro q hq, h.soft, h.lt, h.inj, h.small⟩
theorem Four.len {w : World} {b N C : Nat → Nat} {L : Nat → List Int} (h : Four w b N C L) {q : Nat} (hq : q < 4) : (L q).length = N q := by
  have := (h.gro q hq).row.len
  rwa [ints_length] at this
theorem Four.set {w : World} {b N C : Nat → Nat} {L M : Nat → List Int} {i j : Nat} {v : Int} (h : Four w b N C L) (hi : i < 4) (hj : j < N i) (hM : ∀ q, q < 4 → M q = if q = i then (L i).set j v else L q) : Four (w.setCell ⟨b i, j, none⟩ (.int .i64 v)) b N C M := by
  refine ⟨fun q hq => ?_, fun q hq k => by simpa using h.soft q hq k, fun q hq => by simpa using h.lt q hq, h.inj, h.small⟩
  rw [hM q hq]
  by_cases e : q = i
  · subst e
    rw [if_pos rfl]
    exact (h.gro q hq).set hj
  · rw [if_neg e]
    exact (h.gro q hq).but ((But.refl (· = b i) w).setCell (p := ⟨b i, j, none⟩) (show b i = b i from rfl) _) (fun k hk e2 => e (h.inj q i hq hi (by rw [← blk_at hk]; exact e2)))
theorem Four.lies {w : World} {b N C : Nat → Nat} {L : Nat → List Int} (h : Four w b N C L) {i j : Nat} (hi : i < 4) (hj : j < N i) : ∃ v, Lies w ⟨b i, j, none⟩ (.int .i64 v) := by
  have hc := (h.gro i hi).row.cells _ rfl j _ (ints_get (L i) j (by rw [h.len hi]; exact hj))
  rw [addr_add0] at hc
  exact ⟨_, hc, h.soft i hi j⟩
/-- The mark of a list. -/
def mk (q : Nat) : Int := -100 - (q : Int)
def Lw (N : Nat → Nat) (L : Nat → List Int) (i : Nat) : Nat → List Int := fun q => if q < i then List.replicate (N q) (mk q) else L q
def Lj (N : Nat → Nat) (L : Nat → List Int) (i j : Nat) : Nat → List Int := fun q => if q = i then List.replicate j (mk i) ++ (L i).drop j else Lw N L i q
theorem Lj_zero (N : Nat → Nat) (L : Nat → List Int) (i q : Nat) : Lj N L i 0 q = Lw N L i q := by
  unfold Lj Lw
  by_cases e : q = i
  · subst e; simp
  · simp [e]
theorem Lj_next (N : Nat → Nat) (L : Nat → List Int) (i j q : Nat) (hj : j < (L i).length) : Lj N L i (j + 1) q = if q = i then (Lj N L i j i).set j (mk i) else Lj N L i j q := by
  unfold Lj
  by_cases e : q = i
  · simp only [e, if_true]
    rw [List.set_append_right _ _ (by simp), List.length_replicate, Nat.sub_self, List.drop_eq_getElem_cons hj, List.set_cons_zero, List.replicate_succ']
    simp
  · simp [e]
theorem Lj_done (N : Nat → Nat) (L : Nat → List Int) (i q : Nat) (hl : (L i).length = N i) : Lj N L i (N i) q = Lw N L (i + 1) q := by
  unfold Lj Lw
  by_cases e : q = i
  · subst e
    rw [if_pos rfl, if_pos (by omega), List.drop_of_length_le (by omega), List.append_nil]
  · rw [if_neg e]
    by_cases e2 : q < i
    · rw [if_pos e2, if_pos (by omega)]
    · rw [if_neg e2, if_neg (by omega)]
def ApRel1 (w : World) (v : Value) (w' : World) : Prop := ∃ (i k : Nat), v = .int .i64 (i : Int) ∧ i ≤ 4 ∧ w' = w.drewN k
def Bs (b : Nat → Nat) (k : Nat) : Prop := ∃ q, q < 4 ∧ k = b q
def ApRel2 (w : World) (b N C : Nat → Nat) (L : Nat → List Int) (v : Value) (w' : World) : Prop := ∃ i : Nat, v = .int .i64 (i : Int) ∧ i ≤ 4 ∧ Four w' b N C (Lw N L i) ∧ But (Bs b) w w'
def ApRel3 (w : World) (b N C : Nat → Nat) (L : Nat → List Int) (i : Nat) (v : Value) (w' : World) : Prop := ∃ j : Nat, v = .int .i64 (j : Int) ∧ j ≤ N i ∧ Four w' b N C (Lj N L i j) ∧ But (Bs b) w w'
theorem info22 : (Try.prog.info? 22).map (fun i => (i.zero, i.size, i.bytes)) = some (some (.slice none 0 0), 1, 24) := by kernel_rfl
def ent (N : Nat → Nat) (AA : Nat → Option Addr) (CC : Nat → Nat) (q : Nat) : Value := .slice (AA q) (N q + 80) (CC q)
def ApRel4 (w4 : World) (b N C : Nat → Nat) (s v : Value) (w' : World) : Prop :=
  ∃ (i : Nat) (ma : Option Addr) (mc : Nat) (AA : Nat → Option Addr) (CC : Nat → Nat), s = .slice ma i mc ∧ v = .int .i64 (i : Int) ∧ i ≤ 4 ∧
    Own w' w4.heap.size 22 ma i mc ((List.range i).map (ent N AA CC)) ∧
    (∀ q, q < i → Row w' (AA q) (N q + 80) (CC q) (ints (List.replicate (N q + 80) (mk q))) ∧ ∀ k, Blk (AA q) k → (k = b q ∨ w4.heap.size ≤ k) ∧ k < w'.heap.size ∧ ¬ Blk ma k) ∧
    (∀ q, q < 4 → Row w' (some ⟨b q, 0, none⟩) (N q) (C q) (ints (List.replicate (N q) (mk q)))) ∧
    (∀ q, i ≤ q → q < 4 → Gro w' 0 (some ⟨b q, 0, none⟩) (N q) (C q) (ints (List.replicate (N q) (mk q)))) ∧
    But (Bs b) w4 w'
theorem ent_next (N : Nat → Nat) (AA : Nat → Option Addr) (CC : Nat → Nat) (i : Nat) (a : Option Addr) (c : Nat) :
    (List.range (i + 1)).map (ent N (fun q => if q = i then a else AA q) (fun q => if q = i then c else CC q)) = (List.range i).map (ent N AA CC) ++ [.slice a (N i + 80) c] := by
  rw [List.range_succ, List.map_append]
  congr 1
  · refine List.map_congr_left fun q hq => ?_
    have : q ≠ i := by have := List.mem_range.1 hq; omega
    simp [ent, this]
  · simp [ent]
/-- One list more is grown and put beside the others. -/
theorem ApRel4.next {w4 w' w1 : World} {b N C : Nat → Nat} {i : Nat} {ma : Option Addr} {mc : Nat} {AA : Nat → Option Addr} {CC : Nat → Nat} (hb4 : ∀ q, q < 4 → b q < w4.heap.size) (hinj : ∀ q r, q < 4 → r < 4 → b q = b r → q = r) (hN : ∀ q, q < 4 → N q ≤ 40) (hi : i < 4)
    (hO : Own w' w4.heap.size 22 ma i mc ((List.range i).map (ent N AA CC)))
    (hA : ∀ q, q < i → Row w' (AA q) (N q + 80) (CC q) (ints (List.replicate (N q + 80) (mk q))) ∧ ∀ k, Blk (AA q) k → (k = b q ∨ w4.heap.size ≤ k) ∧ k < w'.heap.size ∧ ¬ Blk ma k)
    (hL : ∀ q, q < 4 → Row w' (some ⟨b q, 0, none⟩) (N q) (C q) (ints (List.replicate (N q) (mk q))))
    (hG : ∀ q, i ≤ q → q < 4 → Gro w' 0 (some ⟨b q, 0, none⟩) (N q) (C q) (ints (List.replicate (N q) (mk q))))
    (hB : But (Bs b) w4 w') {a' : Option Addr} {c' : Nat} (h1 : Own w1 0 3 a' (N i + 80) c' (ints (List.replicate (N i) (mk i) ++ List.replicate 80 (mk i)))) (h2 : Gr (some ⟨b i, 0, none⟩) a' w' w1)
    (h3 : Row w1 (some ⟨b i, 0, none⟩) (N i) (C i) (ints (List.replicate (N i) (mk i)))) :
    ∃ ma' mc' w3, (Builtin.append_ #[41, 41] 41 #[.slice ma i mc, .slice (some ⟨w1.heap.size, 0, none⟩) 1 1]).run Try.prog (w1.alloc (Obj.cells #[.slice a' (N i + 80) c'] 22)) = .ok (.slice ma' (i + 1) mc') w3 ∧
      ApRel4 w4 b N C (.slice ma' (i + 1) mc') (.int .i64 ((i + 1 : Nat) : Int)) w3 := by
  have hs1 := hB.size
  have hs2 := h2.but.size
  have hma : ∀ k, Blk ma k → w4.heap.size ≤ k ∧ k < w'.heap.size := fun k hk => ⟨hO.blk k hk, hO.lt k hk⟩
  have hbi : ∀ k, Blk (some ⟨b i, 0, none⟩) k → k = b i := fun k hk => blk_at hk
  have hb4i := hb4 i hi
  have hO1 := (hO.but h2.but (fun k hk e => by have := hma k hk; have := hbi k e; omega)).alloc (Obj.cells #[.slice a' (N i + 80) c'] 22)
  obtain ⟨ma', mc', w3, hrun, hO3, hG3⟩ := append_gen 41 22 _ 24 Try.underlying41 info22 rfl hO1 (Row.single w1 22 (.slice a' (N i + 80) c') rfl) (by simp; omega) (by omega) (by omega)
  have hs3 := hG3.but.size
  simp at hs3
  have step : ∀ (x : Option Addr) (m c : Nat) (V : List Value), Row w1 x m c V → (∀ k, Blk x k → ¬ Blk ma k) → Row w3 x m c V := fun x m c V hx hn => (hx.alloc _).but hG3.but hn
  refine ⟨ma', mc', w3, hrun, i + 1, ma', mc', fun q => if q = i then a' else AA q, fun q => if q = i then c' else CC q, rfl, rfl, by omega, by rw [ent_next]; exact hO3, fun q hq => ?_, fun q hq => ?_, fun q hq1 hq2 => ?_, ?_⟩
  · by_cases e : q = i
    · subst e
      simp only [if_true]
      have hnm : ∀ k, Blk a' k → ¬ Blk ma k := fun k hk hm => by
        have := hma k hm
        rcases h2.on k hk with e | e
        · have := hbi k e; omega
        · omega
      refine ⟨step _ _ _ _ (by have := h1.read; rwa [List.replicate_append_replicate] at this) hnm, fun k hk => ⟨?_, ?_, fun hm => ?_⟩⟩
      · rcases h2.on k hk with e | e
        · exact .inl (hbi k e)
        · exact .inr (by omega)
      · have := h1.lt k hk; omega
      · rcases hG3.on k hm with e | e
        · exact hnm k hk e
        · have := h1.lt k hk
          simp at e
          omega
    · have hqi : q < i := by omega
      obtain ⟨hr, hk⟩ := hA q hqi
      simp only [e, if_false]
      refine ⟨step _ _ _ _ (hr.but h2.but (fun k hk2 e2 => ?_)) (fun k hk2 => (hk k hk2).2.2), fun k hk2 => ⟨(hk k hk2).1, by have := (hk k hk2).2.1; omega, fun hm => ?_⟩⟩
      · rcases (hk k hk2).1 with e3 | e3
        · exact e (hinj q i (by omega) hi (by rw [← e3]; exact hbi k e2))
        · have := hbi k e2; omega
      · rcases hG3.on k hm with e3 | e3
        · exact (hk k hk2).2.2 e3
        · have := (hk k hk2).2.1
          simp at e3
          omega
  · have hbq := hb4 q hq
    have hn : ∀ k, Blk (some ⟨b q, 0, none⟩) k → ¬ Blk ma k := fun k hk hm => by have := hma k hm; have := blk_at hk; omega
    by_cases e : q = i
    · subst e
      exact step _ _ _ _ h3 hn
    · exact step _ _ _ _ ((hL q hq).but h2.but (fun k hk e2 => e (hinj q i hq hi (by rw [← blk_at hk]; exact hbi k e2)))) hn
  · have hbq := hb4 q hq2
    have hn : ∀ k, Blk (some ⟨b q, 0, none⟩) k → ¬ Blk ma k := fun k hk hm => by have := hma k hm; have := blk_at hk; omega
    have e : q ≠ i := by omega
    exact (((hG q (by omega) hq2).but h2.but (fun k hk e2 => e (hinj q i hq2 hi (by rw [← blk_at hk]; exact hbi k e2)))).but (S := fun _ => False) (But.of (below1 _ _)) (fun _ _ h => h)).but hG3.but hn
  · exact ((hB.trans (h2.but.mono (fun k hk => ⟨i, hi, hbi k hk⟩))).alloc _).comp hG3.but (fun k hk => .inr (hma k hk).1)
end Go.Proofs.Ytfcfacchppkmdaa
