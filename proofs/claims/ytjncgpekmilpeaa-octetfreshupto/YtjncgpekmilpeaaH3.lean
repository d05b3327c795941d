import Derived.Test.YtjncgpekmilpeaaH2
import Derived.Deep.DeepAppendRoom
namespace Go.Proofs.Ytjncgpekmilpeaa
open Go.RowKit
set_option linter.unusedVariables false

theorem Own.but2 {S : Nat → Prop} {w w' : World} {z : Nat} {a : Option Addr} {n c : Nat} {L : List Nat} (hb : But S w w') (h : Own w z a n c L) (hn : ∀ k, Blk a k → ¬ S k) : Own w' z a n c L := by
  refine ⟨⟨h.row.1, ?_⟩, h.small⟩
  rcases h.row.2 with h0 | ⟨g', cap, cur, hv, hz, hh, r⟩
  · exact .inl h0
  · refine .inr ⟨g', cap, cur, hv, hz, ?_, r⟩
    simp only [Value.slice.injEq] at hv
    rw [hb.block g' (Array.getElem?_eq_some_iff.1 hh).1 (hn g' ⟨_, hv.1, rfl⟩)]
    exact hh
theorem row_prefix {w : World} {a : Option Addr} {n c c' : Nat} {L M : List Nat} (h : Row w a (n + 1) c' (L ++ M)) (hl : L.length = n) (hc : n ≤ c) (hn : a = none → n = 0 ∧ c = 0) : Row w a n c L := by
  refine ⟨hl, hc, hn, fun x hx j u hu => ?_, fun x hx => h.small x (List.mem_append_left _ hx)⟩
  have hj : j < L.length := by have := (List.getElem?_eq_some_iff.1 hu).1; rwa [u8s_length] at this
  refine h.cells x hx j u ?_
  rw [u8s_append, List.getElem?_append_left (by rw [u8s_length]; exact hj)]
  exact hu
/-- A byte behind a list in memory of its own: the list itself reads as it did. -/
theorem append_mark {w : World} {z : Nat} {a : Option Addr} {n c : Nat} {L : List Nat} {b : Nat} (h : Own w z a n c L) (hz : z ≤ w.heap.size) (hr : n + 1 ≤ 140737488355328) (hb8 : b < 256) :
    ∃ a' c' w', (Builtin.append_ #[22, 22] 22 #[.slice a n c, .slice (some ⟨w.heap.size, 0, none⟩) 1 1]).run Try.prog (w.alloc (Obj.cells #[Value.int .u8 (b : Int)] 5)) = .ok (.slice a' (n + 1) c') w' ∧ Own w' z a' (n + 1) c' (L ++ [b]) ∧ Gr a a' w w' ∧ Row w' a n c L := by
  obtain ⟨a', c', w', hrun, ho, hg⟩ := append_byte h hz hr hb8
  refine ⟨a', c', w', hrun, ho, hg, ?_⟩
  obtain ⟨i, hi, hz0, hz1, hz2⟩ := info_parts info5
  have hl := h.len
  have h' := h.alloc (Obj.cells #[Value.int .u8 (b : Int)] 5)
  have hR1 := Row.one w b hb8
  rcases h.row.2 with ⟨h0, hn0⟩ | ⟨g, c0, cur, hv, _⟩
  · simp only [Value.slice.injEq] at h0
    obtain ⟨rfl, rfl, rfl⟩ := h0
    have : L = [] := List.eq_nil_of_length_eq_zero hl
    subst this
    exact row_nil _
  · simp only [Value.slice.injEq] at hv
    obtain ⟨rfl, _, rfl⟩ := hv
    have hcap := h.read.cap_
    by_cases hroom : n + 1 ≤ c
    · obtain ⟨w2, hr2, _, _⟩ := run_append_own_spare (P := Try.prog) (w.alloc (Obj.cells #[Value.int .u8 (b : Int)] 5)) z 22 22 5 i 1 Try.underlying22 hi hz1 g n c (u8s L) h'.row ⟨w.heap.size, 0, none⟩ 1 1 (u8s [b]) rfl (hR1.cells _ rfl) (u8s_one _) hroom
      rw [hrun] at hr2
      simp only [Result.ok.injEq, Value.slice.injEq] at hr2
      obtain ⟨⟨rfl, _, rfl⟩, rfl⟩ := hr2
      exact row_prefix ho.read hl hcap (fun e => by cases e)
    · have hr2 := run_append_grow (P := Try.prog) (w.alloc (Obj.cells #[Value.int .u8 (b : Int)] 5)) 22 22 5 i (.int .u8 0) Try.underlying22 hi hz0 ⟨g, 0, none⟩ n c (u8s L) (by rw [u8s_length, hz1, hl, Nat.mul_one]) (h'.read.cells _ rfl) ⟨w.heap.size, 0, none⟩ 1 1 (u8s [b]) (by rw [hz1]; rfl) (hR1.cells _ rfl) (by omega) (by omega) (growslice_fits (by omega) (by rw [hz2]; omega))
      rw [hrun] at hr2
      simp only [Result.ok.injEq] at hr2
      obtain ⟨_, rfl⟩ := hr2
      exact h'.read.later (((Below.refl _ _).drew).alloc (by simp) _)
/-- Behind i lists lengthened. -/
structure LongRel (Q : World) (zA gA cA : Nat) (A D : Nat → Option Addr × Nat × Nat) (i : Nat) (lv : Value) (w' : World) : Prop where
  lng : w'.ownsRow Q.heap.size 22 1 lv i ((List.range i).map (valA D))
  own : ∀ q, q < i → (D q).2.1 = (A q).2.1 + 1 ∧ Own w' zA (D q).1 (D q).2.1 (D q).2.2 (List.replicate ((A q).2.1 + 1) (q + 1)) ∧ ∀ k, Blk (D q).1 k → Blk (A q).1 k ∨ Q.heap.size ≤ k
  rest : ∀ q, i ≤ q → q < 18 → Own w' zA (A q).1 (A q).2.1 (A q).2.2 (List.replicate (A q).2.1 (q + 1))
  rows : ∀ q, q < 18 → Row w' (A q).1 (A q).2.1 (A q).2.2 (List.replicate (A q).2.1 (q + 1))
  all : w'.ownsRow zA 22 1 (.slice (some ⟨gA, 0, none⟩) 18 cA) 18 ((List.range 18).map (valA A))
  bel : Below zA Q w'
theorem long_step {Q w' : World} {zA gA cA : Nat} {A D : Nat → Option Addr × Nat × Nat} {i : Nat} {lv : Value} (h : LongRel Q zA gA cA A D i lv w') (hi : i < 18) (hz : zA ≤ Q.heap.size) (hgA : gA < Q.heap.size)
    (hap : ∀ p q, p < 18 → q < 18 → p ≠ q → ∀ k, Blk (A p).1 k → ¬ Blk (A q).1 k) (hlt : ∀ q, q < 18 → ∀ k, Blk (A q).1 k → k < Q.heap.size) (hn : (A i).2.1 ≤ 2097176) :
    ∃ a2 c2 w2, (Builtin.append_ #[22, 22] 22 #[.slice (A i).1 (A i).2.1 (A i).2.2, .slice (some ⟨w'.heap.size, 0, none⟩) 1 1]).run Try.prog (w'.alloc (Obj.cells #[Value.int .u8 ((i : Int) + 1)] 5)) = .ok (.slice a2 ((A i).2.1 + 1) c2) w2 ∧
      ∃ v3 w3, (Builtin.append_ #[32, 32] 32 #[lv, .slice (some ⟨w2.heap.size, 0, none⟩) 1 1]).run Try.prog (w2.alloc (Obj.cells #[.slice a2 ((A i).2.1 + 1) c2] 22)) = .ok v3 w3 ∧ ∃ D2, LongRel Q zA gA cA A D2 (i + 1) v3 w3 := by
  have hsz := h.bel.size
  have hcast : (((i + 1 : Nat)) : Int) = (i : Int) + 1 := by simp
  have hoi := h.rest i (Nat.le_refl _) hi
  obtain ⟨a2, c2, w2, hrun, o2, gr, rw2⟩ := append_mark (b := i + 1) hoi (by omega) (by omega) (by omega)
  rw [hcast] at hrun
  refine ⟨a2, c2, w2, hrun, ?_⟩
  have hsz2 := gr.but.size
  have l2 := own_but gr.but h.lng (fun k hk hs => by have := hlt i hi k hs; omega)
  obtain ⟨v3, w3, hrun3, l3, g3⟩ := all_run (own_later (below1 w2 (Obj.cells #[.slice a2 ((A i).2.1 + 1) c2] 22)) l2) w2.heap.size 1 [(a2, (A i).2.1 + 1, c2, [])] rfl (fun j u hu => by
    have hj : j = 0 := by have := (List.getElem?_eq_some_iff.1 hu).1; simp at this; omega
    subst hj
    simp [val4] at hu
    subst hu
    simp [go_sem]) (by simp; omega) (by omega)
  refine ⟨v3, w3, hrun3, fun q => if q = i then (a2, (A i).2.1 + 1, c2) else D q, ?_⟩
  have lb := own_later (below1 w2 (Obj.cells #[.slice a2 ((A i).2.1 + 1) c2] 22)) l2
  have hlv := own_block lb
  have b3 : But (fun k => lv.ownBlock = some k) (w2.alloc (Obj.cells #[.slice a2 ((A i).2.1 + 1) c2] 22)) w3 := ⟨g3.os, g3.tape, g3.output, g3.size, fun k hk hn => g3.block k hk (fun e => hn e.symm)⟩
  have keepO : ∀ {a : Option Addr} {n c : Nat} {L : List Nat}, Own w2 zA a n c L → Own w3 zA a n c L := fun ho => by
    have ho' := ho.alloc (Obj.cells #[.slice a2 ((A i).2.1 + 1) c2] 22)
    exact ho'.kept g3 (own_types ho' lb)
  have keepR : ∀ q, q < 18 → Row w2 (A q).1 (A q).2.1 (A q).2.2 (List.replicate (A q).2.1 (q + 1)) → Row w3 (A q).1 (A q).2.1 (A q).2.2 (List.replicate (A q).2.1 (q + 1)) := fun q hq hr =>
    (hr.alloc _).but b3 (fun k hk _ hs => by have := hlt q hq k hk; have := hlv k hs; omega)
  refine ⟨?_, fun q hq => ?_, fun q hq1 hq2 => ?_, fun q hq => ?_, ?_, ?_⟩
  · have e : (List.range (i + 1)).map (valA fun q => if q = i then (a2, (A i).2.1 + 1, c2) else D q) = (List.range i).map (valA D) ++ [(a2, (A i).2.1 + 1, c2, [])].map val4 := by
      rw [List.range_succ, List.map_append]
      congr 1
      · apply List.map_congr_left
        intro q hq
        have := List.mem_range.1 hq
        have hqi : ¬ q = i := by omega
        simp [valA, hqi]
      · simp [valA, val4]
    rw [e]
    exact l3
  · by_cases e : q = i
    · subst e
      simp only [if_pos]
      refine ⟨trivial, ?_, fun k hk => ?_⟩
      · have := keepO o2
        rwa [← List.replicate_succ'] at this
      · rcases gr.on k hk with h1 | h1
        · exact .inl h1
        · exact .inr (by omega)
    · obtain ⟨p1, p2, p3⟩ := h.own q (by omega)
      simp only [if_neg e]
      refine ⟨p1, keepO (p2.but2 gr.but (fun k hk hs => ?_)), p3⟩
      rcases p3 k hk with h1 | h1
      · exact hap q i (by omega) hi e k h1 hs
      · have := hlt i hi k hs; omega
  · exact keepO ((h.rest q (by omega) hq2).but2 gr.but (fun k hk hs => hap q i hq2 hi (by omega) k hk hs))
  · by_cases e : q = i
    · subst e; exact keepR q hq rw2
    · exact keepR q hq ((h.rows q hq).but gr.but (fun k hk _ hs => hap q i hq hi e k hk hs))
  · have hne := own_types hoi h.all
    have a2' : w2.ownsRow zA 22 1 (.slice (some ⟨gA, 0, none⟩) 18 cA) 18 ((List.range 18).map (valA A)) := by
      refine ⟨h.all.1, ?_⟩
      rcases h.all.2 with h0 | ⟨g', cap, cur, hv, hz', hh, r⟩
      · exact .inl h0
      · refine .inr ⟨g', cap, cur, hv, hz', ?_, r⟩
        simp only [Value.slice.injEq, Option.some.injEq, Addr.mk.injEq] at hv
        obtain ⟨⟨rfl, _⟩, _⟩ := hv
        rw [gr.but.block gA (Array.getElem?_eq_some_iff.1 hh).1 (fun hs => hne gA hs (by simp [Value.ownBlock]))]
        exact hh
    have a3 := own_later (below1 w2 (Obj.cells #[.slice a2 ((A i).2.1 + 1) c2] 22)) a2'
    refine ⟨a3.1, ?_⟩
    rcases a3.2 with h0 | ⟨g', cap, cur, hv, hz', hh, r⟩
    · exact .inl h0
    · refine .inr ⟨g', cap, cur, hv, hz', ?_, r⟩
      simp only [Value.slice.injEq, Option.some.injEq, Addr.mk.injEq] at hv
      obtain ⟨⟨rfl, _⟩, _⟩ := hv
      rw [b3.block gA (Array.getElem?_eq_some_iff.1 hh).1 (fun hs => by have := hlv gA hs; omega)]
      exact hh
  · have hb1 : Below zA w' w2 := gr.below hoi (by omega)
    have hb2 : Below zA w2 (w2.alloc (Obj.cells #[.slice a2 ((A i).2.1 + 1) c2] 22)) := (below1 _ _).mono (by omega)
    exact ((h.bel.trans hb1).trans hb2).grown g3 (by simp; omega) (fun k hk => by have := hlv k hk; omega)
end Go.Proofs.Ytjncgpekmilpeaa
