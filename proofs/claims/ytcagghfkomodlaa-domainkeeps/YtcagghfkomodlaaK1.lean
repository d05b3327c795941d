import Derived.Test.YtcagghfkomodlaaB7
namespace Go.Proofs.Ytcagghfkomodlaa
open Go.RowKit
set_option linter.unusedVariables false
set_option linter.unusedSimpArgs false

theorem Rd.cells {w : World} {b o n : Nat} {K : List Cp} (h : Rd w (some ⟨b, o, none⟩) n K) (j : Nat) (u : Value) (hu : (caps K)[j]? = some u) : w.cell? ⟨b, o + j, none⟩ = some u := by
  have hj : j < K.length * 3 := by rw [← caps_length]; exact (List.getElem?_eq_some_iff.1 hu).1
  have hl := h.len
  obtain ⟨b', o', e, hat⟩ := h.at_ (by omega)
  cases e
  obtain ⟨c, hc⟩ : ∃ c, K[j / 3]? = some c := ⟨_, List.getElem?_eq_getElem (by omega)⟩
  have hg := cls_get (enc := encC) (k := 3) (fun _ => rfl) K (j / 3) (j % 3) c hc (by omega)
  rw [show j / 3 * 3 + j % 3 = j by omega] at hg
  rw [show (caps K)[j]? = (encC c)[j % 3]? from hg] at hu
  obtain ⟨h0, h1, h2⟩ := hat _ c hc
  have hm : j % 3 = 0 ∨ j % 3 = 1 ∨ j % 3 = 2 := by omega
  rcases hm with hm | hm | hm
  · rw [hm] at hu
    simp [encC] at hu
    rw [show o + j / 3 * 3 = o + j by omega] at h0
    rw [h0, hu]
  · rw [hm] at hu
    simp [encC] at hu
    rw [show o + j / 3 * 3 + 1 = o + j by omega] at h1
    rw [h1, hu]
  · rw [hm] at hu
    simp [encC] at hu
    rw [show o + j / 3 * 3 + 2 = o + j by omega] at h2
    rw [h2, hu]
theorem append_full_c {w : World} {p : Addr} {n : Nat} {L : List Value} {x : Addr} {m c : Nat} {M : List Value} (h : Cr w 3 (some p) n n L) (k : Cr w 3 (some x) m c M) (hm : 0 < m) (hr : (n + m) * 24 ≤ 140737488355328) :
    ∃ g' cap' w', (Builtin.append_ #[22, 22] 22 #[.slice (some p) n n, .slice (some x) m c]).run Try.prog w = .ok (.slice (some ⟨g', 0, none⟩) (n + m) cap') w' ∧ Ow w' w.heap.size 35 3 (some ⟨g', 0, none⟩) (n + m) cap' (L ++ M) ∧ Below w.heap.size w w' := by
  obtain ⟨i, hi, hz0, hz1, hz2⟩ := info_parts info35
  have hl := h.len
  have hlm := k.len
  have hrun := run_append_grow (P := Try.prog) w 22 22 35 i _ Try.underlying22 hi hz0 p n n L (by rw [hz1]; exact hl) (h.cells p rfl) x m c M (by rw [hz1]; exact hlm) (k.cells x rfl) (by omega) (by omega) (growslice_fits (by omega) (by rw [hz2]; omega))
  refine ⟨_, _, _, hrun, ⟨by simp [hl, hlm]; omega, .inr ⟨w.heap.size, _, _, rfl, Nat.le_refl _, heap_alloc_new w.drew _, grownCap_ge _ _ _ _, grownCap_le_maxLen _ _ _ _ (by unfold maxLen; omega), ?_, ?_⟩⟩, ((Below.refl _ _).drew).alloc (by simp) _⟩
  · have := grownCap_ge w (n + m) n 35
    simp only [Array.size_append, List.size_toArray, size_zeroCells, hl, hlm, Value.cells, List.length]
    simp
    omega
  · rw [Array.toList_append, Array.toList_append]
    exact List.take_left' (by simp [hl, hlm]; omega)
/-- The law's own list, less place i. -/
theorem own_rem {w : World} {a : Option Addr} {c i r : Nat} {K : List Cp} (h : Rd w a (i + r + 1) K) (hc : i + r + 1 ≤ c) (hs : i + r + 1 ≤ 64) (hlt : ∀ k, Blk a k → k < w.heap.size) :
    ∃ a' c' w', (Builtin.append_ #[22, 22] 22 #[.slice a i i, .slice (cutA a c (i + 1)) r (c - (i + 1))]).run Try.prog w = .ok (.slice a' (i + r) c') w' ∧ Rd w' a' (i + r) (K.take i ++ K.drop (i + 1)) ∧ i + r ≤ c' ∧ Below w.heap.size w w' ∧ ∀ k, Blk a' k → (Blk a k ∨ w.heap.size ≤ k) ∧ k < w'.heap.size := by
  have hl := h.len
  obtain ⟨b, o, rfl, hat⟩ := h.at_ (by omega)
  obtain ⟨ii, hi, hz0, hz1, hz2⟩ := info_parts info35
  by_cases hr : r = 0
  · subst hr
    obtain ⟨q, hq⟩ : ∃ q, cutA (some ⟨b, o, none⟩) c (i + 1) = some q := by
      unfold cutA
      split
      · exact ⟨_, rfl⟩
      · exact ⟨_, rfl⟩
    rw [hq]
    have hl0 : (loadCells q 0).run Try.prog w = .ok #[] w := by simpa using run_loadCells_list (P := Try.prog) w q [] (by simp)
    refine ⟨some ⟨b, o, none⟩, i, w, ?_, ⟨by simp; omega, fun h0 => ⟨b, o, rfl, fun j x hx => hat j x ?_⟩⟩, by omega, Below.refl _ _, fun k hk => ⟨.inl hk, hlt k hk⟩⟩
    · simp [Builtin.append_, run_underlying Try.underlying22, Builtin.lenOf, Builtin.firstCells, sizeOf, typeInfo, hi, hz1, storeCells, hl0]
    · rw [List.drop_eq_nil_of_le (by omega), List.append_nil, List.getElem?_take] at hx
      split at hx
      · exact hx
      · cases hx
  · have hq : cutA (some ⟨b, o, none⟩) c (i + 1) = some ⟨b, o + (i + 1) * 3, none⟩ := by
      unfold cutA
      rw [if_neg (by omega), Option.map_some, addr_add]
    rw [hq]
    have hM : (K.drop (i + 1)).length = r := by rw [List.length_drop]; omega
    have k1 : Cr w 3 (some ⟨b, o, none⟩) i i (caps (K.take i)) := by
      refine ⟨by rw [caps_length, List.length_take]; omega, fun e => (by cases e), fun x hx j u hu => ?_, caps_one _⟩
      cases hx
      rw [addr_add]
      refine h.cells j u ?_
      rw [← caps_take, List.getElem?_take] at hu
      split at hu
      · exact hu
      · cases hu
    have k2 : Cr w 3 (some ⟨b, o + (i + 1) * 3, none⟩) r (c - (i + 1)) (caps (K.drop (i + 1))) := by
      refine ⟨by rw [caps_length, hM], fun e => (by cases e), fun x hx j u hu => ?_, caps_one _⟩
      cases hx
      rw [addr_add, Nat.add_assoc]
      refine h.cells _ u ?_
      rw [← caps_drop, List.getElem?_drop] at hu
      exact hu
    obtain ⟨g', c', w', hrun, hO, hB⟩ := append_full_c k1 k2 (by omega) (by omega)
    refine ⟨_, c', w', hrun, ?_, ?_, hB, fun k hk => ⟨.inr (hO.blk k hk).1, (hO.blk k hk).2⟩⟩
    · refine Ow.rd (base := w.heap.size) (cap := c') ?_ (by simp; omega)
      rw [caps_append]
      exact hO
    · rcases hO.form with ⟨e, _⟩ | ⟨_, _, _, e⟩
      · cases e
      · exact e
/-- The program's list K beside the law's own O. -/
structure Kp (w0 w : World) (g : Nat) (m : Int) (pa : Option Addr) (cap : Nat) (K : List Cp) (a : Option Addr) (c : Nat) (O : List Cp) : Prop where
  dm : Dm w w0.heap.size g m pa cap K
  ow : Ow w w0.heap.size 35 3 a O.length c (caps O)
  dj : ∀ k, Blk a k → k ≠ g ∧ ¬ Blk pa k
  bl : Below w0.heap.size w0 w
variable {w0 w w' : World} {g : Nat} {m : Int} {pa : Option Addr} {cap : Nat} {K : List Cp} {a : Option Addr} {c : Nat} {O : List Cp}
theorem Kp.wr {pa' : Option Addr} {cap' : Nat} {K' : List Cp} (h : Kp w0 w g m pa cap K a c O) (hd : Dm w' w0.heap.size g m pa' cap' K') (hr : Wr w w' g pa pa') : Kp w0 w' g m pa' cap' K' a c O := by
  refine ⟨hd, h.ow.but hr.but (fun k hk e => ?_), fun k hk => ⟨(h.dj k hk).1, fun e => ?_⟩, hr.below h.dm h.bl⟩
  · rcases e with e | e
    · exact (h.dj k hk).1 e
    · exact (h.dj k hk).2 e
  · rcases hr.on k e with e | e
    · exact (h.dj k hk).2 e
    · have := (h.ow.blk k hk).2; omega
theorem Kp.later (h : Kp w0 w g m pa cap K a c O) (hb : Below w.heap.size w w') : Kp w0 w' g m pa cap K a c O := ⟨h.dm.later hb, h.ow.later hb, h.dj, h.bl.trans (hb.mono h.bl.size)⟩
theorem Kp.app (h : Kp w0 w g m pa cap K a c O) (x : Cp) (hl : O.length ≤ 64) :
    ∃ a' c' w', (Builtin.append_ #[22, 22] 22 #[.slice a O.length c, .slice (some ⟨w.heap.size, 0, none⟩) 1 1]).run Try.prog (w.alloc (Obj.cells #[.int .i64 x.1, .int .u64 (x.2.1 : Int), .int .u64 (x.2.2 : Int)] 35)) = .ok (.slice a' (O.length + 1) c') w' ∧ Kp w0 w' g m pa cap K a' c' (O ++ [x]) := by
  have h1 := h.later (below1 w (Obj.cells #[.int .i64 x.1, .int .u64 (x.2.1 : Int), .int .u64 (x.2.2 : Int)] 35))
  obtain ⟨a', c', w', hrun, hO, hG⟩ := append_k 22 35 _ 3 24 Try.underlying22 info35 rfl (by decide) (by decide) h1.ow (Cr.lit w 35 (encC x) (encC_one x)) h1.bl.size (by omega)
  have hlen : (O ++ [x]).length = O.length + 1 := by simp
  refine ⟨a', c', w', hrun, h1.dm.but hG.but (fun e => (h.dj _ e).1 rfl) (fun k hk e => (h.dj _ e).2 hk), by rw [hlen, caps_snoc]; exact hO, fun k hk => ?_, ?_⟩
  · rcases hG.on k hk with e | e
    · exact h.dj k e
    · have h2 := h1.dm.lt
      refine ⟨by omega, fun e2 => ?_⟩
      have := (h1.dm.own.blk k e2).2
      omega
  · exact ⟨hG.but.os.trans h1.bl.os, hG.but.tape.trans h1.bl.tape, hG.but.output.trans h1.bl.output, Nat.le_trans h1.bl.size hG.but.size, fun k hk => (hG.but.block k (by have := h1.bl.size; omega) (fun e => by have := (h1.ow.blk k e).1; omega)).trans (h1.bl.block k hk)⟩
/-- The program's list beside the law's own, which is only read. -/
structure Kr (w0 w : World) (g : Nat) (m : Int) (pa : Option Addr) (cap : Nat) (a : Option Addr) (c : Nat) (K : List Cp) : Prop where
  dm : Dm w w0.heap.size g m pa cap K
  rd : Rd w a K.length K
  lt : ∀ k, Blk a k → k < w.heap.size
  cc : K.length ≤ c
  dj : ∀ k, Blk a k → k ≠ g ∧ ¬ Blk pa k
  bl : Below w0.heap.size w0 w
theorem Kp.kr (h : Kp w0 w g m pa cap K a c K) : Kr w0 w g m pa cap a c K :=
  ⟨h.dm, h.ow.rd rfl, fun k hk => (h.ow.blk k hk).2, by
    rcases h.ow.form with ⟨_, h1, h2⟩ | ⟨_, _, _, h1⟩
    · omega
    · exact h1, h.dj, h.bl⟩
theorem Kr.later (h : Kr w0 w g m pa cap a c K) (hb : Below w.heap.size w w') : Kr w0 w' g m pa cap a c K := ⟨h.dm.later hb, h.rd.later hb, fun k hk => Nat.lt_of_lt_of_le (h.lt k hk) hb.size, h.cc, h.dj, h.bl.trans (hb.mono h.bl.size)⟩
/-- The place is taken out of the program's list: then the own list still holds K. -/
theorem Kr.rem {K' : List Cp} {cap' : Nat} (h : Kr w0 w g m pa cap a c K) (hd : Dm w' w0.heap.size g m pa cap' K') (hr : Wr w w' g pa pa) : Rd w' a K.length K ∧ Below w0.heap.size w0 w' ∧ w.heap.size ≤ w'.heap.size ∧
    ∀ U W (a' : Option Addr) (c' : Nat), Below w'.heap.size w' U → Below U.heap.size U W → Rd W a' K'.length K' → K'.length ≤ c' → (∀ k, Blk a' k → (Blk a k ∨ U.heap.size ≤ k) ∧ k < W.heap.size) → Kr w0 W g m pa cap' a' c' K' := by
  have hsz := hr.but.size
  refine ⟨h.rd.but hr.but (fun k hk e => ?_), hr.below h.dm h.bl, hsz, fun U W a' c' hU hW hrd hcc hbk => ⟨(hd.later hU).later hW, hrd, fun k hk => (hbk k hk).2, hcc, fun k hk => ?_, ?_⟩⟩
  · rcases e with e | e
    · exact (h.dj k hk).1 e
    · exact (h.dj k hk).2 e
  · rcases (hbk k hk).1 with e | e
    · exact h.dj k e
    · have h2 := hd.lt
      have h3 := hU.size
      refine ⟨by omega, fun e2 => ?_⟩
      have := (hd.own.blk k e2).2
      omega
  · have h1 := hr.below h.dm h.bl
    exact (h1.trans (hU.mono h1.size)).trans (hW.mono (Nat.le_trans h1.size hU.size))
end Go.Proofs.Ytcagghfkomodlaa
