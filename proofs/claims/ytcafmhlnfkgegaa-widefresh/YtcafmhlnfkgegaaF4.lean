import Derived.Test.YtcafmhlnfkgegaaF3
import Derived.Test.YtcafmhlnfkgegaaLA
namespace Go.Proofs.Ytcafmhlnfkgegaa
open Go.RowKit

theorem lies_row {w : World} {g : Nat} {cur : Array Value} {t : TypeId} {fz : Nat × Nat} (hg : w.heap[g]? = some (.cells cur t fz)) (i : Nat) (v : Value) (h : cur[i]? = some v) (hf : ¬ (fz.1 ≤ i ∧ i < fz.2)) : Lies w ⟨g, i, none⟩ v := by
  refine ⟨by simp [World.cell?, hg, h], ?_⟩
  obtain ⟨lo, hi⟩ := fz
  simp only [World.frozen?, hg, Bool.and_eq_false_iff, decide_eq_false_iff_not]
  simp only at hf
  omega

/-- The list with its spare room: sixteen bytes of the word, then three marks. -/
structure Room (w : World) (g : Nat) (f : Nat → Nat) : Prop where
  low : ∀ i, i < 16 → Lies w ⟨g, i, none⟩ (.int .u8 (f i : Int))
  m0 : Lies w ⟨g, 16, none⟩ (.int .u8 165)
  m1 : Lies w ⟨g, 17, none⟩ (.int .u8 166)
  m2 : Lies w ⟨g, 18, none⟩ (.int .u8 167)
theorem Room.later {W w1 : World} {g : Nat} {f : Nat → Nat} (hb : Below W.heap.size W w1) (h : Room W g f) : Room w1 g f :=
  ⟨fun i hi => (h.low i hi).later hb, h.m0.later hb, h.m1.later hb, h.m2.later hb⟩
theorem Room.alloc {w : World} {g : Nat} {f : Nat → Nat} (h : Room w g f) (o : Obj) : Room (w.alloc o) g f := h.later (below1 _ _)
theorem Lies.stays {w w' : World} {G : Nat → Nat} {p : Addr} {v : Value} (hs : Stays w w' G) (h : Lies w p v) (hn : ∀ j, j < 3 → p.block ≠ G j) : Lies w' p v := by
  have hb := hs.block p.block (World.block_lt_of_cell? _ _ h.1) hn
  exact ⟨by rw [World.cell?_of_block hb]; exact h.1, by rw [World.frozen?_of_block hb]; exact h.2⟩
theorem Room.stays {w w' : World} {G : Nat → Nat} {g : Nat} {f : Nat → Nat} (hs : Stays w w' G) (h : Room w g f) (hn : ∀ j, j < 3 → g ≠ G j) : Room w' g f :=
  ⟨fun i hi => (h.low i hi).stays hs hn, h.m0.stays hs hn, h.m1.stays hs hn, h.m2.stays hs hn⟩
theorem Room.store {w : World} {g : Nat} {f f' : Nat → Nat} (h : Room w g f) (h0 : ∀ i, 0 < i → f' i = f i) : Room (w.setCell ⟨g, 0, none⟩ (.int .u8 (f' 0 : Int))) g f' := by
  refine ⟨fun i hi => ?_, h.m0.keep (by simp), h.m1.keep (by simp), h.m2.keep (by simp)⟩
  by_cases e : i = 0
  · subst e; exact (h.low 0 hi).put
  · rw [h0 i (by omega)]
    exact (h.low i hi).keep (fun e' => e (by simpa using congrArg Addr.off e'.symm))

theorem conv16 (N : Nat) (W : World) : (convert 9 32 (.string (strB (bytesOf N)))).run Try.prog W = .ok (.slice (some ⟨W.heap.size, 0, none⟩) 16 (grownCap W 16 0 5)) (Lib.bytesWorld W 5 (strB (bytesOf N))) := by
  have := conv_str (strB (bytesOf N)) W
  rwa [strB_size, bytesOf_length] at this

theorem strF_bytes (N i : Nat) (hi : i < 16) : strF (strB (bytesOf N)) i = byteN N i := by
  unfold strF strB
  have := bytesOf_get N i hi
  simp [List.getD, this]
  exact byteN_lt N i

theorem bytes_lies (N : Nat) (W : World) (i : Nat) (hi : i < grownCap W 16 0 5) : ∃ v, Lies (Lib.bytesWorld W 5 (strB (bytesOf N))) ⟨W.heap.size, i, none⟩ v := by
  have hg := Lib.bytesWorld_at_new W 5 (strB (bytesOf N))
  have hs : (Lib.bytesCells W 5 (strB (bytesOf N))).size = grownCap W 16 0 5 := by
    have h1 := strB_size (bytesOf N)
    rw [bytesOf_length] at h1
    have := grownCap_ge W 16 0 5
    unfold Lib.bytesCells
    rw [h1]
    simp only [Array.size_append, Array.size_map, Array.size_replicate]
    have : (strB (bytesOf N)).data.size = 16 := h1
    omega
  rw [hs] at hg
  exact ⟨_, lies_row hg i _ (Array.getElem?_eq_getElem (by omega)) (by simp only; omega)⟩

theorem store3 (w : World) (g o : Nat) (x y z : Int) (h0 : ∃ v, Lies w ⟨g, o, none⟩ v) (h1 : ∃ v, Lies w ⟨g, o + 1, none⟩ v) (h2 : ∃ v, Lies w ⟨g, o + 2, none⟩ v) :
    (storeCells ⟨g, o, none⟩ [.int .u8 x, .int .u8 y, .int .u8 z] 0).run Try.prog w = .ok () (((w.setCell ⟨g, o, none⟩ (.int .u8 x)).setCell ⟨g, o + 1, none⟩ (.int .u8 y)).setCell ⟨g, o + 2, none⟩ (.int .u8 z)) := by
  obtain ⟨v0, h0⟩ := h0
  obtain ⟨v1, h1⟩ := h1
  obtain ⟨v2, h2⟩ := h2
  have k1 := h1.keep (q := ⟨g, o, none⟩) (u := .int .u8 x) (by simp)
  have k2 := (h2.keep (q := ⟨g, o, none⟩) (u := .int .u8 x) (by simp)).keep (q := ⟨g, o + 1, none⟩) (u := .int .u8 y) (by simp)
  simp only [storeCells, addr_add, Nat.add_zero, Nat.zero_add, Sem.run_bind]
  rw [run_store _ _ _ _ _ rfl, h0.1]
  simp only [h0.2, Bool.false_eq_true, if_false, Result.andThen_ok]
  rw [run_store _ _ _ _ _ rfl, k1.1]
  simp only [k1.2, Bool.false_eq_true, if_false, Result.andThen_ok]
  rw [show (1 : Nat) + 1 = 2 from rfl, run_store _ _ _ _ _ rfl, k2.1]
  simp only [k2.2, Bool.false_eq_true, if_false, Result.andThen_ok]
  rfl

theorem append_room (w : World) (g cap : Nat) (f : Nat → Nat) (a : Addr) (base : Nat) (hc : 16 ≤ cap) (hg : ∀ i, i < 16 → w.cell? ⟨g, i, none⟩ = some (.int .u8 (f i : Int))) (hs : ∀ i, i < cap → ∃ v, Lies w ⟨g, i, none⟩ v) (hb : base ≤ g) (hbw : base ≤ w.heap.size)
    (ha : ∀ j u, ([.int .u8 165, .int .u8 166, .int .u8 167] : List Value)[j]? = some u → w.cell? (a.add j) = some u) :
    ∃ g' cap' w2, (Builtin.append_ #[32, 32] 32 #[.slice (some ⟨g, 0, none⟩) 16 cap, .slice (some a) 3 3]).run Try.prog w = .ok (.slice (some ⟨g', 0, none⟩) 19 cap') w2 ∧ 19 ≤ cap' ∧ base ≤ g' ∧ Room w2 g' f ∧ Below base w w2 := by
  obtain ⟨i, hi, hz0, hz1, hz2⟩ := info_parts info5
  by_cases hroom : 19 ≤ cap
  · have hst := store3 w g 16 165 166 167 (hs 16 (by omega)) (hs 17 (by omega)) (hs 18 (by omega))
    have hf := run_firstCells_some (P := Try.prog) w i.size 3 a 3 3 [.int .u8 165, .int .u8 166, .int .u8 167] (by rw [hz1]; rfl) ha
    refine ⟨g, cap, ((w.setCell ⟨g, 16, none⟩ (.int .u8 165)).setCell ⟨g, 17, none⟩ (.int .u8 166)).setCell ⟨g, 18, none⟩ (.int .u8 167), ?_, hroom, hb, ?_, ?_⟩
    · rw [hz1] at hf
      simp [Builtin.append_, run_underlying Try.underlying32, sizeOf, typeInfo, hi, Builtin.lenOf, hroom, hf, Addr.add_lit, hz1, hst]
    · obtain ⟨v0, h0⟩ := hs 16 (by omega)
      obtain ⟨v1, h1⟩ := hs 17 (by omega)
      obtain ⟨v2, h2⟩ := hs 18 (by omega)
      refine ⟨fun t ht => ?_, ?_, ?_, ?_⟩
      · obtain ⟨v, hv⟩ := hs t (by omega)
        have hv' : Lies w ⟨g, t, none⟩ (.int .u8 (f t : Int)) := ⟨hg t ht, hv.2⟩
        exact ((hv'.keep (fun e => by have := congrArg Addr.off e; simp at this; omega)).keep (fun e => by have := congrArg Addr.off e; simp at this; omega)).keep (fun e => by have := congrArg Addr.off e; simp at this; omega)
      · exact (h0.put.keep (by simp)).keep (by simp)
      · exact (h1.keep (by simp)).put.keep (by simp)
      · exact ((h2.keep (by simp)).keep (by simp)).put
    · exact (((Below.refl base w).setCell hb _).setCell hb _).setCell hb _
  · have hr := run_append_grow (P := Try.prog) w 32 32 5 i (.int .u8 0) Try.underlying32 hi hz0 ⟨g, 0, none⟩ 16 cap ((List.range 16).map fun t => .int .u8 (f t : Int)) (by rw [hz1]; rfl)
      (fun j u hu => by
        rw [addr_add0]
        simp at hu
        obtain ⟨t, ht, rfl⟩ := hu
        obtain ⟨h1, h2⟩ := List.getElem?_eq_some_iff.1 ht
        simp at h1 h2
        subst h2
        exact hg j h1) a 3 3 [.int .u8 165, .int .u8 166, .int .u8 167] (by rw [hz1]; rfl) ha (by omega) (by omega) (growslice_fits (by omega) (by rw [hz2]; omega))
    refine ⟨_, _, _, hr, grownCap_ge _ _ _ _, hbw, ?_, ?_⟩
    · have hh := heap_alloc_new w.drew (.cells (((List.range 16).map fun t => Value.int .u8 (f t : Int)).toArray ++ ([.int .u8 165, .int .u8 166, .int .u8 167] : List Value).toArray ++ Builtin.zeroCells (Value.cells (.int .u8 0)) (grownCap w (16 + 3) cap 5 - (16 + 3))) 5)
      refine ⟨fun t ht => lies_row hh t _ ?_ (by simp), lies_row hh 16 _ ?_ (by simp), lies_row hh 17 _ ?_ (by simp), lies_row hh 18 _ ?_ (by simp)⟩
      · rw [Array.getElem?_append_left (by simp; omega), Array.getElem?_append_left (by simpa using ht)]
        simp [ht]
      · rw [Array.getElem?_append_left (by simp), Array.getElem?_append_right (by simp)]
        simp
      · rw [Array.getElem?_append_left (by simp), Array.getElem?_append_right (by simp)]
        simp
      · rw [Array.getElem?_append_left (by simp), Array.getElem?_append_right (by simp)]
        simp
    · exact ((Below.refl _ _).drew).alloc (by simpa using hbw) _
end Go.Proofs.Ytcafmhlnfkgegaa
