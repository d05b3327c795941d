import Derived.Test.YtejkbeeffllpfaaKD
namespace Go.Proofs.Ytejkbeeffllpfaa
open Go.RowKit
set_option linter.unusedVariables false

/-- A list that may be lengthened: in memory of its own, or with no room. -/
def Gro (w : World) (base : Nat) (e : TypeId) (a : Option Addr) (n cap : Nat) (L : List Value) : Prop := Own w base e a n cap L ∨ (n = cap ∧ ∃ p, a = some p ∧ Row w a n cap L)
theorem Gro.row {w : World} {base : Nat} {e : TypeId} {a : Option Addr} {n cap : Nat} {L : List Value} (h : Gro w base e a n cap L) : Row w a n cap L := by
  rcases h with h | ⟨_, _, _, h⟩
  · exact h.read
  · exact h
theorem Gro.but {S : Nat → Prop} {w w' : World} {base : Nat} {e : TypeId} {a : Option Addr} {n cap : Nat} {L : List Value} (hb : But S w w') (h : Gro w base e a n cap L) (hn : ∀ k, Blk a k → ¬ S k) : Gro w' base e a n cap L := by
  rcases h with h | ⟨h1, p, h2, h⟩
  · exact .inl (h.but hb hn)
  · exact .inr ⟨h1, p, h2, h.but hb hn⟩
theorem Gro.later {w w' : World} {base : Nat} {e : TypeId} {a : Option Addr} {n cap : Nat} {L : List Value} (hb : Below w.heap.size w w') (h : Gro w base e a n cap L) : Gro w' base e a n cap L :=
  h.but (S := fun _ => False) (But.of hb) (fun _ _ h => h)
theorem Gro.nil (w : World) (base : Nat) (e : TypeId) : Gro w base e none 0 0 [] := .inl (Own.nil _ _ _)
theorem info30 : (Try.prog.info? 30).map (fun i => (i.zero, i.size, i.bytes)) = some (some (.slice none 0 0), 1, 24) := by kernel_rfl
/-- One more. -/
theorem gro_append (t e : TypeId) (z : Value) (by_ : Nat) (ht : Try.prog.underlying t = some (.slice e)) (hinf : (Try.prog.info? e).map (fun i => (i.zero, i.size, i.bytes)) = some (some z, 1, by_)) (hzs : z.cells.size = 1)
    {w : World} {base : Nat} {a : Option Addr} {n cap : Nat} {L : List Value} {g : Nat} {x : Value} (h : Gro w base e a n cap L) (hx : Row w (some ⟨g, 0, none⟩) 1 1 [x]) (hb : base ≤ w.heap.size) (hr : (n + 1) * by_ ≤ 140737488355328) (hr2 : n + 1 ≤ 140737488355328) :
    ∃ a' cap' w', (Builtin.append_ #[t, t] t #[.slice a n cap, .slice (some ⟨g, 0, none⟩) 1 1]).run Try.prog w = .ok (.slice a' (n + 1) cap') w' ∧ Own w' base e a' (n + 1) cap' (L ++ [x]) ∧ Gr a a' w w' := by
  rcases h with h | ⟨rfl, p, rfl, h⟩
  · exact append_gen t e z by_ ht hinf hzs h hx hb hr hr2
  · obtain ⟨g', cap', w', hrun, hO, hB⟩ := append_full_gen t e z by_ ht hinf hzs h hx (by omega) hr hr2
    exact ⟨_, cap', w', hrun, hO.mono hb, But.of hB, fun k hk => .inr (hO.blk k hk)⟩
/-- Nothing more. -/
theorem append_zero (t e : TypeId) (z : Value) (by_ : Nat) (ht : Try.prog.underlying t = some (.slice e)) (hinf : (Try.prog.info? e).map (fun i => (i.zero, i.size, i.bytes)) = some (some z, 1, by_)) (w : World) (p : Addr) (n c : Nat) (a2 : Option Addr) :
    (Builtin.append_ #[t, t] t #[.slice (some p) n n, .slice a2 0 c]).run Try.prog w = .ok (.slice (some p) n n) w := by
  obtain ⟨i, hi, hz0, hz1, hz2⟩ := info_parts hinf
  cases a2 with
  | none => simp [Builtin.append_, run_underlying ht, sizeOf, typeInfo, hi, Builtin.lenOf, run_firstCells_none, storeCells]
  | some x =>
    have hf := run_firstCells_some (P := Try.prog) w i.size 0 x 0 c [] (by simp) (fun j u hu => by simp at hu)
    simp [Builtin.append_, run_underlying ht, sizeOf, typeInfo, hi, Builtin.lenOf, hf, storeCells]
theorem cut_to (t : TypeId) (hu : Try.prog.underlying t = some (.slice (Try.prog.elem t))) (hs : ∀ W : World, (sizeOf (Try.prog.elem t)).run Try.prog W = .ok 1 W) (a : Option Addr) (n cap k : Nat) (hk : k ≤ cap) (W : World) :
    (Instr.sliceAt t (.slice a n cap) none (some (.int .i64 (k : Int))) (some (.int .i64 (k : Int)))).run Try.prog W = .ok (.slice a k k) W := by
  rw [run_sliceAt_slice W t _ _ _ _ hu, run_slice_hm W t a n cap hu .i64 .i64 (k : Int) (k : Int) (by omega) (by omega) (by omega), hs]
  have h0 : a.map (·.add 0) = a := by cases a <;> simp [Addr.add]
  simp [sliced, h0]
/-- One less. -/
theorem gro_delete (t e : TypeId) (z : Value) (by_ : Nat) (ht : Try.prog.underlying t = some (.slice e)) (hinf : (Try.prog.info? e).map (fun i => (i.zero, i.size, i.bytes)) = some (some z, 1, by_)) (hzs : z.cells.size = 1) (hu : Try.prog.underlying t = some (.slice (Try.prog.elem t))) (hs : ∀ W : World, (sizeOf (Try.prog.elem t)).run Try.prog W = .ok 1 W)
    {a : Option Addr} {n cap k : Nat} (hk : k < n) (hn : n ≤ 4096) (hby : by_ ≤ 4096) :
    ∃ a2, (∀ W : World, (Instr.sliceAt t (.slice a n cap) (some (.int .i64 ((k : Int) + 1))) none none).run Try.prog W = .ok (.slice a2 (n - (k + 1)) (cap - (k + 1))) W) ∧
      ∀ (w : World) (base : Nat) (L : List Value), base ≤ w.heap.size → Gro w base e a n cap L → ∃ a' cap' w', (Builtin.append_ #[t, t] t #[.slice a k k, .slice a2 (n - (k + 1)) (cap - (k + 1))]).run Try.prog w = .ok (.slice a' (n - 1) cap') w' ∧ Gro w' base e a' (n - 1) cap' (L.take k ++ L.drop (k + 1)) ∧ Gr a a' w w' ∧ ∀ j, Blk a' j → Blk a j ∨ j < w'.heap.size := by
  obtain ⟨a2, hcut, ha2⟩ := slice_from t e hu hs a n cap (k + 1) (by omega)
  refine ⟨a2, fun W => by have := hcut W; rwa [Int.natCast_add] at this, fun w base L hb h => ?_⟩
  have hR := h.row
  obtain ⟨b, o, rfl, hc⟩ := hR.plain (by omega)
  obtain ⟨hR2, hB2⟩ := hR.from (f := k + 1) (by omega) ha2
  have hR1 := hR.sub (m := k) (c := k) (by omega) (Nat.le_refl _) (fun e => by cases e)
  by_cases he : n - (k + 1) = 0
  · rw [he] at hR2 ⊢
    have en : n - 1 = k := by omega
    rw [en]
    refine ⟨_, _, _, append_zero t e z by_ ht hinf w _ k _ a2, .inr ⟨rfl, _, rfl, ?_⟩, Gr.refl _ _, fun _ h => .inl h⟩
    have : L.drop (k + 1) = [] := List.drop_of_length_le (by rw [hR.len]; omega)
    rw [this, List.append_nil]
    exact hR1
  · cases a2 with
    | none => have := hR2.none_ rfl; omega
    | some y =>
      have hmul : (k + (n - (k + 1))) * by_ ≤ 140737488355328 := Nat.le_trans (Nat.mul_le_mul (show k + (n - (k + 1)) ≤ 4096 by omega) hby) (by decide)
      obtain ⟨g', cap', w', hrun, hO, hB⟩ := append_full_gen t e z by_ ht hinf hzs hR1 hR2 (by omega) hmul (by omega)
      have en : k + (n - (k + 1)) = n - 1 := by omega
      rw [en] at hrun hO
      exact ⟨_, cap', w', hrun, .inl (hO.mono hb), ⟨But.of hB, fun j hj => .inr (hO.blk j hj)⟩, fun j hj => .inr (hO.lt j hj)⟩
/-- The three lists of a law, apart by colours; the blocks made beside them. -/
structure Rg (u0 u : World) (base : Nat) (col0 col : Nat → Nat) (aI : Option Addr) (nI cI : Nat) (LI : List Value) (aS : Option Addr) (nS cS : Nat) (LS : List Value) (aW : Option Addr) (nW cW : Nat) (LW : List Value) (xs : List (Nat × Nat × List Value)) : Prop where
  rI : Gro u base 3 aI nI cI LI
  rS : Gro u base 3 aS nS cS LS
  rW : Gro u base 30 aW nW cW LW
  kI : ∀ k, Blk aI k → col k = 1
  kS : ∀ k, Blk aS k → col k = 2
  kW : ∀ k, Blk aW k → col k = 3
  ex : ∀ p ∈ xs, col p.1 = p.2.1 ∧ (p.2.1 = 4 ∨ 10 ≤ p.2.1) ∧ u0.heap.size ≤ p.1 ∧ ∀ j v, p.2.2[j]? = some v → Lies u ⟨p.1, j, none⟩ v
  old : ∀ k, k < u0.heap.size → col k = col0 k
  lt : ∀ k, col k ≠ 0 → k < u.heap.size
  ge : ∀ k, col k ≠ 0 → base ≤ k
  but : But (fun k => col0 k = 1 ∨ col0 k = 2 ∨ col0 k = 3) u0 u
  hb : base ≤ u0.heap.size
theorem Rg.alloc {u0 u : World} {base : Nat} {col0 col : Nat → Nat} {aI : Option Addr} {nI cI : Nat} {LI : List Value} {aS : Option Addr} {nS cS : Nat} {LS : List Value} {aW : Option Addr} {nW cW : Nat} {LW : List Value} {xs : List (Nat × Nat × List Value)}
    (h : Rg u0 u base col0 col aI nI cI LI aS nS cS LS aW nW cW LW xs) (cs : Array Value) (T : TypeId) (c : Nat) (hc : c = 4 ∨ 10 ≤ c) :
    Rg u0 (u.alloc (.cells cs T)) base col0 (fun k => if k = u.heap.size then c else col k) aI nI cI LI aS nS cS LS aW nW cW LW ((u.heap.size, c, cs.toList) :: xs) := by
  have hb := below1 u (.cells cs T)
  have hsz := h.but.size
  have hne : ∀ k, col k ≠ 0 → k ≠ u.heap.size := fun k hk e => by have := h.lt k hk; omega
  refine ⟨h.rI.later hb, h.rS.later hb, h.rW.later hb, fun k hk => ?_, fun k hk => ?_, fun k hk => ?_, fun p hp => ?_, fun k hk => ?_, fun k hk => ?_, fun k hk => ?_, h.but.call hb, h.hb⟩
  · rw [if_neg (hne k (by rw [h.kI k hk]; decide))]; exact h.kI k hk
  · rw [if_neg (hne k (by rw [h.kS k hk]; decide))]; exact h.kS k hk
  · rw [if_neg (hne k (by rw [h.kW k hk]; decide))]; exact h.kW k hk
  · rcases List.mem_cons.1 hp with rfl | hp
    · exact ⟨if_pos rfl, hc, hsz, fun j v hv => lies_new _ _ _ j v (by simpa using hv)⟩
    · obtain ⟨h1, h2, h3, h4⟩ := h.ex p hp
      refine ⟨?_, h2, h3, fun j v hv => (h4 j v hv).later hb⟩
      rw [if_neg (hne p.1 (by rw [h1]; omega))]
      exact h1
  · rw [if_neg (by omega)]; exact h.old k hk
  · rw [World.size_alloc]
    by_cases e : k = u.heap.size
    · omega
    · rw [if_neg e] at hk
      have := h.lt k hk
      omega
  · by_cases e : k = u.heap.size
    · have := h.hb
      omega
    · rw [if_neg e] at hk
      exact h.ge k hk
theorem und28 : Try.prog.underlying 28 = some (.slice (Try.prog.elem 28)) := by kernel_rfl
theorem size_el28 (W : World) : (sizeOf (Try.prog.elem 28)).run Try.prog W = .ok 1 W := by
  have e : Try.prog.elem 28 = 3 := by kernel_rfl
  obtain ⟨i, hi, hz0, hz1, hz2⟩ := info_parts info3
  rw [e]
  simp [sizeOf, typeInfo, hi, hz1]
theorem und29 : Try.prog.underlying 29 = some (.slice (Try.prog.elem 29)) := by kernel_rfl
theorem size_el29 (W : World) : (sizeOf (Try.prog.elem 29)).run Try.prog W = .ok 1 W := by
  have e : Try.prog.elem 29 = 30 := by kernel_rfl
  obtain ⟨i, hi, hz0, hz1, hz2⟩ := info_parts info30
  rw [e]
  simp [sizeOf, typeInfo, hi, hz1]
theorem Rg.stepI {u0 u : World} {base : Nat} {col0 col : Nat → Nat} {aI : Option Addr} {nI cI : Nat} {LI : List Value} {aS : Option Addr} {nS cS : Nat} {LS : List Value} {aW : Option Addr} {nW cW : Nat} {LW : List Value} {xs : List (Nat × Nat × List Value)} {u' : World} {a' : Option Addr} {n' c' : Nat} {L' : List Value} (h : Rg u0 u base col0 col aI nI cI LI aS nS cS LS aW nW cW LW xs) (hO : Gro u' base 3 a' n' c' L') (hG : Gr aI a' u u') (hlt : ∀ k, Blk a' k → k < u'.heap.size) : Rg u0 u' base col0 (fun k => if u.heap.size ≤ k ∧ k < u'.heap.size then 1 else col k) a' n' c' L' aS nS cS LS aW nW cW LW xs := by
  have hsz := h.but.size
  have hne : ∀ k, col k ≠ 0 → ¬ (u.heap.size ≤ k ∧ k < u'.heap.size) := fun k hk e => by have := h.lt k hk; omega
  refine ⟨hO, h.rS.but hG.but (fun k hk e => by have h1 := h.kI k e; have h2 := h.kS k hk; omega), h.rW.but hG.but (fun k hk e => by have h1 := h.kI k e; have h2 := h.kW k hk; omega), fun k hk => ?_, fun k hk => ?_, fun k hk => ?_, fun p hp => ?_, fun k hk => ?_, fun k hk => ?_, fun k hk => ?_, h.but.comp hG.but (fun i hi => ?_), h.hb⟩
  · rcases hG.on k hk with h1 | h1
    · rw [if_neg (hne k (by rw [h.kI k h1]; decide))]
      exact h.kI k h1
    · exact if_pos ⟨h1, hlt k hk⟩
  · rw [if_neg (hne k (by rw [h.kS k hk]; decide))]
    exact h.kS k hk
  · rw [if_neg (hne k (by rw [h.kW k hk]; decide))]
    exact h.kW k hk
  · obtain ⟨h1, h2, h3, h4⟩ := h.ex p hp
    refine ⟨?_, h2, h3, fun j v hv => (h4 j v hv).but hG.but (fun e => by have h5 := h.kI _ e; simp only at h5; omega)⟩
    rw [if_neg (hne p.1 (by rw [h1]; omega))]
    exact h1
  · rw [if_neg (by omega)]
    exact h.old k hk
  · by_cases e : u.heap.size ≤ k ∧ k < u'.heap.size
    · exact e.2
    · rw [if_neg e] at hk
      exact Nat.lt_of_lt_of_le (h.lt k hk) hG.but.size
  · by_cases e : u.heap.size ≤ k ∧ k < u'.heap.size
    · have := h.hb
      omega
    · rw [if_neg e] at hk
      exact h.ge k hk
  · have h5 := h.kI i hi
    by_cases e : i < u0.heap.size
    · left
      rw [h.old i e] at h5
      exact .inl h5
    · right
      omega
theorem Rg.appI {u0 u : World} {base : Nat} {col0 col : Nat → Nat} {aI : Option Addr} {nI cI : Nat} {LI : List Value} {aS : Option Addr} {nS cS : Nat} {LS : List Value} {aW : Option Addr} {nW cW : Nat} {LW : List Value} {xs : List (Nat × Nat × List Value)} {g c : Nat} {x : Value} (h : Rg u0 u base col0 col aI nI cI LI aS nS cS LS aW nW cW LW xs) (hx : (g, c, [x]) ∈ xs) (h1 : x.oneCell' = true) (hn : nI ≤ 4096) :
    ∃ a' c' u' col', (Builtin.append_ #[28, 28] 28 #[.slice aI nI cI, .slice (some ⟨g, 0, none⟩) 1 1]).run Try.prog u = .ok (.slice a' (nI + 1) c') u' ∧ Rg u0 u' base col0 col' a' (nI + 1) c' (LI ++ [x]) aS nS cS LS aW nW cW LW xs := by
  have hs := h.but.size
  have hb := h.hb
  have hrow : Row u (some ⟨g, 0, none⟩) 1 1 [x] := Row.at rfl (Nat.le_refl _) (fun y hy => by simp at hy; subst hy; exact h1) (fun j v hv => by
    rw [Nat.zero_add]
    exact ((h.ex _ hx).2.2.2 j v hv).1)
  obtain ⟨a', c', u', hrun, hO, hG⟩ := gro_append 28 3 _ 8 Try.underlying28 info3 rfl h.rI hrow (by omega) (by omega) (by omega)
  exact ⟨a', c', u', _, hrun, h.stepI (.inl hO) hG hO.lt⟩
theorem Rg.delI {u0 u : World} {base : Nat} {col0 col : Nat → Nat} {aI : Option Addr} {nI cI : Nat} {LI : List Value} {aS : Option Addr} {nS cS : Nat} {LS : List Value} {aW : Option Addr} {nW cW : Nat} {LW : List Value} {xs : List (Nat × Nat × List Value)} {k : Nat} (hk : k < nI) (hn : nI ≤ 4096) : ∃ a2, (∀ W : World, (Instr.sliceAt 28 (.slice aI nI cI) (some (.int .i64 ((k : Int) + 1))) none none).run Try.prog W = .ok (.slice a2 (nI - (k + 1)) (cI - (k + 1))) W) ∧
    ∀ {u0 u : World} {base : Nat} {col0 col : Nat → Nat} {LI LS LW : List Value} {xs : List (Nat × Nat × List Value)} {aS : Option Addr} {nS cS : Nat} {aW : Option Addr} {nW cW : Nat}, (Rg u0 u base col0 col aI nI cI LI aS nS cS LS aW nW cW LW xs) → ∃ a' c' u' col', (Builtin.append_ #[28, 28] 28 #[.slice aI k k, .slice a2 (nI - (k + 1)) (cI - (k + 1))]).run Try.prog u = .ok (.slice a' (nI - 1) c') u' ∧ Rg u0 u' base col0 col' a' (nI - 1) c' (LI.take k ++ LI.drop (k + 1)) aS nS cS LS aW nW cW LW xs := by
  obtain ⟨a2, h1, h2⟩ := gro_delete 28 3 _ 8 Try.underlying28 info3 rfl und28 size_el28 (a := aI) (n := nI) (cap := cI) hk hn (by decide)
  refine ⟨a2, h1, fun {u0 u base col0 col LI LS LW xs aS nS cS aW nW cW} h => ?_⟩
  have hs := h.but.size
  have hb := h.hb
  obtain ⟨a', c', u', hrun, hO, hG, hl⟩ := h2 u base LI (by omega) h.rI
  refine ⟨a', c', u', _, hrun, h.stepI hO hG (fun j hj => ?_)⟩
  rcases hl j hj with h3 | h3
  · exact Nat.lt_of_lt_of_le (h.lt j (by rw [h.kI j h3]; decide)) hG.but.size
  · exact h3
theorem Rg.stepS {u0 u : World} {base : Nat} {col0 col : Nat → Nat} {aI : Option Addr} {nI cI : Nat} {LI : List Value} {aS : Option Addr} {nS cS : Nat} {LS : List Value} {aW : Option Addr} {nW cW : Nat} {LW : List Value} {xs : List (Nat × Nat × List Value)} {u' : World} {a' : Option Addr} {n' c' : Nat} {L' : List Value} (h : Rg u0 u base col0 col aI nI cI LI aS nS cS LS aW nW cW LW xs) (hO : Gro u' base 3 a' n' c' L') (hG : Gr aS a' u u') (hlt : ∀ k, Blk a' k → k < u'.heap.size) : Rg u0 u' base col0 (fun k => if u.heap.size ≤ k ∧ k < u'.heap.size then 2 else col k) aI nI cI LI a' n' c' L' aW nW cW LW xs := by
  have hsz := h.but.size
  have hne : ∀ k, col k ≠ 0 → ¬ (u.heap.size ≤ k ∧ k < u'.heap.size) := fun k hk e => by have := h.lt k hk; omega
  refine ⟨h.rI.but hG.but (fun k hk e => by have h1 := h.kS k e; have h2 := h.kI k hk; omega), hO, h.rW.but hG.but (fun k hk e => by have h1 := h.kS k e; have h2 := h.kW k hk; omega), fun k hk => ?_, fun k hk => ?_, fun k hk => ?_, fun p hp => ?_, fun k hk => ?_, fun k hk => ?_, fun k hk => ?_, h.but.comp hG.but (fun i hi => ?_), h.hb⟩
  · rw [if_neg (hne k (by rw [h.kI k hk]; decide))]
    exact h.kI k hk
  · rcases hG.on k hk with h1 | h1
    · rw [if_neg (hne k (by rw [h.kS k h1]; decide))]
      exact h.kS k h1
    · exact if_pos ⟨h1, hlt k hk⟩
  · rw [if_neg (hne k (by rw [h.kW k hk]; decide))]
    exact h.kW k hk
  · obtain ⟨h1, h2, h3, h4⟩ := h.ex p hp
    refine ⟨?_, h2, h3, fun j v hv => (h4 j v hv).but hG.but (fun e => by have h5 := h.kS _ e; simp only at h5; omega)⟩
    rw [if_neg (hne p.1 (by rw [h1]; omega))]
    exact h1
  · rw [if_neg (by omega)]
    exact h.old k hk
  · by_cases e : u.heap.size ≤ k ∧ k < u'.heap.size
    · exact e.2
    · rw [if_neg e] at hk
      exact Nat.lt_of_lt_of_le (h.lt k hk) hG.but.size
  · by_cases e : u.heap.size ≤ k ∧ k < u'.heap.size
    · have := h.hb
      omega
    · rw [if_neg e] at hk
      exact h.ge k hk
  · have h5 := h.kS i hi
    by_cases e : i < u0.heap.size
    · left
      rw [h.old i e] at h5
      exact .inr (.inl h5)
    · right
      omega
theorem Rg.appS {u0 u : World} {base : Nat} {col0 col : Nat → Nat} {aI : Option Addr} {nI cI : Nat} {LI : List Value} {aS : Option Addr} {nS cS : Nat} {LS : List Value} {aW : Option Addr} {nW cW : Nat} {LW : List Value} {xs : List (Nat × Nat × List Value)} {g c : Nat} {x : Value} (h : Rg u0 u base col0 col aI nI cI LI aS nS cS LS aW nW cW LW xs) (hx : (g, c, [x]) ∈ xs) (h1 : x.oneCell' = true) (hn : nS ≤ 4096) :
    ∃ a' c' u' col', (Builtin.append_ #[28, 28] 28 #[.slice aS nS cS, .slice (some ⟨g, 0, none⟩) 1 1]).run Try.prog u = .ok (.slice a' (nS + 1) c') u' ∧ Rg u0 u' base col0 col' aI nI cI LI a' (nS + 1) c' (LS ++ [x]) aW nW cW LW xs := by
  have hs := h.but.size
  have hb := h.hb
  have hrow : Row u (some ⟨g, 0, none⟩) 1 1 [x] := Row.at rfl (Nat.le_refl _) (fun y hy => by simp at hy; subst hy; exact h1) (fun j v hv => by
    rw [Nat.zero_add]
    exact ((h.ex _ hx).2.2.2 j v hv).1)
  obtain ⟨a', c', u', hrun, hO, hG⟩ := gro_append 28 3 _ 8 Try.underlying28 info3 rfl h.rS hrow (by omega) (by omega) (by omega)
  exact ⟨a', c', u', _, hrun, h.stepS (.inl hO) hG hO.lt⟩
theorem Rg.delS {u0 u : World} {base : Nat} {col0 col : Nat → Nat} {aI : Option Addr} {nI cI : Nat} {LI : List Value} {aS : Option Addr} {nS cS : Nat} {LS : List Value} {aW : Option Addr} {nW cW : Nat} {LW : List Value} {xs : List (Nat × Nat × List Value)} {k : Nat} (hk : k < nS) (hn : nS ≤ 4096) : ∃ a2, (∀ W : World, (Instr.sliceAt 28 (.slice aS nS cS) (some (.int .i64 ((k : Int) + 1))) none none).run Try.prog W = .ok (.slice a2 (nS - (k + 1)) (cS - (k + 1))) W) ∧
    ∀ {u0 u : World} {base : Nat} {col0 col : Nat → Nat} {LI LS LW : List Value} {xs : List (Nat × Nat × List Value)} {aI : Option Addr} {nI cI : Nat} {aW : Option Addr} {nW cW : Nat}, (Rg u0 u base col0 col aI nI cI LI aS nS cS LS aW nW cW LW xs) → ∃ a' c' u' col', (Builtin.append_ #[28, 28] 28 #[.slice aS k k, .slice a2 (nS - (k + 1)) (cS - (k + 1))]).run Try.prog u = .ok (.slice a' (nS - 1) c') u' ∧ Rg u0 u' base col0 col' aI nI cI LI a' (nS - 1) c' (LS.take k ++ LS.drop (k + 1)) aW nW cW LW xs := by
  obtain ⟨a2, h1, h2⟩ := gro_delete 28 3 _ 8 Try.underlying28 info3 rfl und28 size_el28 (a := aS) (n := nS) (cap := cS) hk hn (by decide)
  refine ⟨a2, h1, fun {u0 u base col0 col LI LS LW xs aI nI cI aW nW cW} h => ?_⟩
  have hs := h.but.size
  have hb := h.hb
  obtain ⟨a', c', u', hrun, hO, hG, hl⟩ := h2 u base LS (by omega) h.rS
  refine ⟨a', c', u', _, hrun, h.stepS hO hG (fun j hj => ?_)⟩
  rcases hl j hj with h3 | h3
  · exact Nat.lt_of_lt_of_le (h.lt j (by rw [h.kS j h3]; decide)) hG.but.size
  · exact h3
theorem Rg.stepW {u0 u : World} {base : Nat} {col0 col : Nat → Nat} {aI : Option Addr} {nI cI : Nat} {LI : List Value} {aS : Option Addr} {nS cS : Nat} {LS : List Value} {aW : Option Addr} {nW cW : Nat} {LW : List Value} {xs : List (Nat × Nat × List Value)} {u' : World} {a' : Option Addr} {n' c' : Nat} {L' : List Value} (h : Rg u0 u base col0 col aI nI cI LI aS nS cS LS aW nW cW LW xs) (hO : Gro u' base 30 a' n' c' L') (hG : Gr aW a' u u') (hlt : ∀ k, Blk a' k → k < u'.heap.size) : Rg u0 u' base col0 (fun k => if u.heap.size ≤ k ∧ k < u'.heap.size then 3 else col k) aI nI cI LI aS nS cS LS a' n' c' L' xs := by
  have hsz := h.but.size
  have hne : ∀ k, col k ≠ 0 → ¬ (u.heap.size ≤ k ∧ k < u'.heap.size) := fun k hk e => by have := h.lt k hk; omega
  refine ⟨h.rI.but hG.but (fun k hk e => by have h1 := h.kW k e; have h2 := h.kI k hk; omega), h.rS.but hG.but (fun k hk e => by have h1 := h.kW k e; have h2 := h.kS k hk; omega), hO, fun k hk => ?_, fun k hk => ?_, fun k hk => ?_, fun p hp => ?_, fun k hk => ?_, fun k hk => ?_, fun k hk => ?_, h.but.comp hG.but (fun i hi => ?_), h.hb⟩
  · rw [if_neg (hne k (by rw [h.kI k hk]; decide))]
    exact h.kI k hk
  · rw [if_neg (hne k (by rw [h.kS k hk]; decide))]
    exact h.kS k hk
  · rcases hG.on k hk with h1 | h1
    · rw [if_neg (hne k (by rw [h.kW k h1]; decide))]
      exact h.kW k h1
    · exact if_pos ⟨h1, hlt k hk⟩
  · obtain ⟨h1, h2, h3, h4⟩ := h.ex p hp
    refine ⟨?_, h2, h3, fun j v hv => (h4 j v hv).but hG.but (fun e => by have h5 := h.kW _ e; simp only at h5; omega)⟩
    rw [if_neg (hne p.1 (by rw [h1]; omega))]
    exact h1
  · rw [if_neg (by omega)]
    exact h.old k hk
  · by_cases e : u.heap.size ≤ k ∧ k < u'.heap.size
    · exact e.2
    · rw [if_neg e] at hk
      exact Nat.lt_of_lt_of_le (h.lt k hk) hG.but.size
  · by_cases e : u.heap.size ≤ k ∧ k < u'.heap.size
    · have := h.hb
      omega
    · rw [if_neg e] at hk
      exact h.ge k hk
  · have h5 := h.kW i hi
    by_cases e : i < u0.heap.size
    · left
      rw [h.old i e] at h5
      exact .inr (.inr h5)
    · right
      omega
theorem Rg.appW {u0 u : World} {base : Nat} {col0 col : Nat → Nat} {aI : Option Addr} {nI cI : Nat} {LI : List Value} {aS : Option Addr} {nS cS : Nat} {LS : List Value} {aW : Option Addr} {nW cW : Nat} {LW : List Value} {xs : List (Nat × Nat × List Value)} {g c : Nat} {x : Value} (h : Rg u0 u base col0 col aI nI cI LI aS nS cS LS aW nW cW LW xs) (hx : (g, c, [x]) ∈ xs) (h1 : x.oneCell' = true) (hn : nW ≤ 4096) :
    ∃ a' c' u' col', (Builtin.append_ #[29, 29] 29 #[.slice aW nW cW, .slice (some ⟨g, 0, none⟩) 1 1]).run Try.prog u = .ok (.slice a' (nW + 1) c') u' ∧ Rg u0 u' base col0 col' aI nI cI LI aS nS cS LS a' (nW + 1) c' (LW ++ [x]) xs := by
  have hs := h.but.size
  have hb := h.hb
  have hrow : Row u (some ⟨g, 0, none⟩) 1 1 [x] := Row.at rfl (Nat.le_refl _) (fun y hy => by simp at hy; subst hy; exact h1) (fun j v hv => by
    rw [Nat.zero_add]
    exact ((h.ex _ hx).2.2.2 j v hv).1)
  obtain ⟨a', c', u', hrun, hO, hG⟩ := gro_append 29 30 _ 24 Try.underlying29 info30 rfl h.rW hrow (by omega) (by omega) (by omega)
  exact ⟨a', c', u', _, hrun, h.stepW (.inl hO) hG hO.lt⟩
theorem Rg.delW {u0 u : World} {base : Nat} {col0 col : Nat → Nat} {aI : Option Addr} {nI cI : Nat} {LI : List Value} {aS : Option Addr} {nS cS : Nat} {LS : List Value} {aW : Option Addr} {nW cW : Nat} {LW : List Value} {xs : List (Nat × Nat × List Value)} {k : Nat} (hk : k < nW) (hn : nW ≤ 4096) : ∃ a2, (∀ W : World, (Instr.sliceAt 29 (.slice aW nW cW) (some (.int .i64 ((k : Int) + 1))) none none).run Try.prog W = .ok (.slice a2 (nW - (k + 1)) (cW - (k + 1))) W) ∧
    ∀ {u0 u : World} {base : Nat} {col0 col : Nat → Nat} {LI LS LW : List Value} {xs : List (Nat × Nat × List Value)} {aI : Option Addr} {nI cI : Nat} {aS : Option Addr} {nS cS : Nat}, (Rg u0 u base col0 col aI nI cI LI aS nS cS LS aW nW cW LW xs) → ∃ a' c' u' col', (Builtin.append_ #[29, 29] 29 #[.slice aW k k, .slice a2 (nW - (k + 1)) (cW - (k + 1))]).run Try.prog u = .ok (.slice a' (nW - 1) c') u' ∧ Rg u0 u' base col0 col' aI nI cI LI aS nS cS LS a' (nW - 1) c' (LW.take k ++ LW.drop (k + 1)) xs := by
  obtain ⟨a2, h1, h2⟩ := gro_delete 29 30 _ 24 Try.underlying29 info30 rfl und29 size_el29 (a := aW) (n := nW) (cap := cW) hk hn (by decide)
  refine ⟨a2, h1, fun {u0 u base col0 col LI LS LW xs aI nI cI aS nS cS} h => ?_⟩
  have hs := h.but.size
  have hb := h.hb
  obtain ⟨a', c', u', hrun, hO, hG, hl⟩ := h2 u base LW (by omega) h.rW
  refine ⟨a', c', u', _, hrun, h.stepW hO hG (fun j hj => ?_)⟩
  rcases hl j hj with h3 | h3
  · exact Nat.lt_of_lt_of_le (h.lt j (by rw [h.kW j h3]; decide)) hG.but.size
  · exact h3
end Go.Proofs.Ytejkbeeffllpfaa
