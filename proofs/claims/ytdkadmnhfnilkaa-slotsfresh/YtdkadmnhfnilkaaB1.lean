import Derived.Test.YtdkadmnhfnilkaaO2
namespace Go.Proofs.Ytdkadmnhfnilkaa
open Go.Shelf Go.RowKit Go.Lib Go.Sort
set_option linter.unusedVariables false

/-- Rows whose elements take k cells each. -/
theorem cls_length {α : Type} {enc : α → List Value} {k : Nat} (hk : ∀ x, (enc x).length = k) (K : List α) : (K.flatMap enc).length = K.length * k := by
  induction K with
  | nil => simp
  | cons a r ih => rw [List.flatMap_cons, List.length_append, hk, ih, List.length_cons, Nat.add_mul, Nat.one_mul, Nat.add_comm]
theorem cls_get {α : Type} {enc : α → List Value} {k : Nat} (hk : ∀ x, (enc x).length = k) (K : List α) (i c : Nat) (x : α) (hi : K[i]? = some x) (hc : c < k) : (K.flatMap enc)[i * k + c]? = (enc x)[c]? := by
  induction K generalizing i with
  | nil => cases hi
  | cons a r ih =>
    rw [List.flatMap_cons]
    cases i with
    | zero =>
      simp only [List.getElem?_cons_zero, Option.some.injEq] at hi
      subst hi
      rw [Nat.zero_mul, Nat.zero_add, List.getElem?_append_left (by rw [hk]; exact hc)]
    | succ i =>
      simp only [List.getElem?_cons_succ] at hi
      have e : (i + 1) * k + c = (enc a).length + (i * k + c) := by rw [hk, Nat.add_mul, Nat.one_mul]; omega
      rw [e, List.getElem?_append_right (by omega), Nat.add_sub_cancel_left]
      exact ih i hi
theorem cls_one {α : Type} {enc : α → List Value} (h1 : ∀ x, ∀ v ∈ enc x, v.oneCell' = true) (K : List α) : ∀ u ∈ K.flatMap enc, u.oneCell' = true := by
  intro u hu
  obtain ⟨x, _, h⟩ := List.mem_flatMap.1 hu
  exact h1 x u h
theorem encC_len (x : Cp) : (encC x).length = 3 := rfl
theorem encC_one (x : Cp) : ∀ v ∈ encC x, v.oneCell' = true := by
  intro v hv
  simp [encC] at hv
  rcases hv with rfl | rfl | rfl <;> rfl
def caps (K : List Cp) : List Value := K.flatMap encC
theorem caps_length (K : List Cp) : (caps K).length = K.length * 3 := cls_length encC_len K
theorem caps_append (K M : List Cp) : caps (K ++ M) = caps K ++ caps M := by simp [caps]
/-- A capability's three cells. -/
structure Cel (w : World) (b o : Nat) (c : Cp) : Prop where
  c0 : w.cell? ⟨b, o, none⟩ = some (.int .i64 c.1)
  c1 : w.cell? ⟨b, o + 1, none⟩ = some (.int .u64 (c.2.1 : Int))
  c2 : w.cell? ⟨b, o + 2, none⟩ = some (.int .u64 (c.2.2 : Int))
theorem Cel.but {S : Nat → Prop} {w w' : World} {b o : Nat} {c : Cp} (hb : But S w w') (h : Cel w b o c) (hn : ¬ S b) : Cel w' b o c := ⟨cell_but hb h.c0 hn, cell_but hb h.c1 hn, cell_but hb h.c2 hn⟩
theorem Cel.later {w w' : World} {b o : Nat} {c : Cp} (hb : Below w.heap.size w w') (h : Cel w b o c) : Cel w' b o c := h.but (S := fun _ => False) (But.of hb) (fun h => h)
/-- A list of capabilities in a block that may be written. -/
structure Ca (w : World) (b : Nat) (K : List Cp) : Prop where
  lt : b < w.heap.size
  fr : ∀ j, w.frozen? ⟨b, j, none⟩ = false
  at_ : ∀ (i : Nat) (c : Cp), K[i]? = some c → Cel w b (i * 3) c
theorem Ca.but {S : Nat → Prop} {w w' : World} {b : Nat} {K : List Cp} (hb : But S w w') (h : Ca w b K) (hn : ¬ S b) : Ca w' b K :=
  ⟨Nat.lt_of_lt_of_le h.lt hb.size, fun j => by rw [World.frozen?_of_block (w := w) (hb.block b h.lt hn)]; exact h.fr j, fun i c hc => (h.at_ i c hc).but hb hn⟩
theorem Ca.later {w w' : World} {b : Nat} {K : List Cp} (hb : Below w.heap.size w w') (h : Ca w b K) : Ca w' b K := h.but (S := fun _ => False) (But.of hb) (fun h => h)
theorem Ca.alloc {w : World} {b : Nat} {K : List Cp} (h : Ca w b K) (o : Obj) : Ca (w.alloc o) b K := h.later (below1 _ _)
theorem Ca.cells {w : World} {b : Nat} {K : List Cp} (h : Ca w b K) (j : Nat) (u : Value) (hu : (caps K)[j]? = some u) : w.cell? ⟨b, j, none⟩ = some u := by
  have hj : j < K.length * 3 := by rw [← caps_length]; exact (List.getElem?_eq_some_iff.1 hu).1
  obtain ⟨c, hc⟩ : ∃ c, K[j / 3]? = some c := ⟨_, List.getElem?_eq_getElem (by omega)⟩
  have hg := cls_get encC_len K (j / 3) (j % 3) c hc (by omega)
  have e : j / 3 * 3 + j % 3 = j := by omega
  rw [e] at hg
  rw [show (caps K)[j]? = (encC c)[j % 3]? from hg] at hu
  obtain ⟨h0, h1, h2⟩ := h.at_ _ c hc
  have hm : j % 3 = 0 ∨ j % 3 = 1 ∨ j % 3 = 2 := by omega
  rcases hm with hm | hm | hm
  · rw [hm] at hu
    simp [encC] at hu
    have e2 : j / 3 * 3 = j := by omega
    rw [e2] at h0
    rw [h0, hu]
  · rw [hm] at hu
    simp [encC] at hu
    have e2 : j / 3 * 3 + 1 = j := by omega
    rw [e2] at h1
    rw [h1, hu]
  · rw [hm] at hu
    simp [encC] at hu
    have e2 : j / 3 * 3 + 2 = j := by omega
    rw [e2] at h2
    rw [h2, hu]
theorem info34 : (Try.prog.info? 34).map (fun i => (i.zero, i.size, i.bytes)) = some (some (.agg #[.int .i64 0, .int .u64 0, .int .u64 0]), 3, 24) := by kernel_rfl
theorem ca_of {w : World} {base b n cap : Nat} {K : List Cp} (h : w.ownsRow base 34 3 (.slice (some ⟨b, 0, none⟩) n cap) n (caps K)) : Ca w b K := by
  have hcell : ∀ (i c : Nat) (u : Value) (x : Cp), K[i]? = some x → c < 3 → (encC x)[c]? = some u → w.cell? ⟨b, i * 3 + c, none⟩ = some u := by
    intro i c u x hx hc hu
    have := h.cells (g := b) rfl (i * 3 + c) u (by rw [show (caps K)[i * 3 + c]? = (encC x)[c]? from cls_get encC_len K i c x hx hc]; exact hu)
    rw [addr_add0] at this
    exact this
  rcases h.2 with ⟨h0, _⟩ | ⟨g, c, cur, hv, _, hh, hc, _⟩
  · simp at h0
  · simp only [Value.slice.injEq, Option.some.injEq, Addr.mk.injEq] at hv
    obtain ⟨⟨rfl, _⟩, _, rfl⟩ := hv
    refine ⟨(Array.getElem?_eq_some_iff.1 hh).1, fun j => by simp [World.frozen?, hh], fun i x hx => ⟨hcell i 0 _ x hx (by omega) rfl, hcell i 1 _ x hx (by omega) rfl, hcell i 2 _ x hx (by omega) rfl⟩⟩
/-- An empty list with room for c. -/
theorem make_caps (w : World) (c : Nat) (hc : c ≤ 1024) : ∃ w', (Instr.makeSlice 43 (.int .i64 0) (.int .i64 (c : Int))).run Try.prog w = .ok (.slice (some ⟨w.heap.size, 0, none⟩) 0 c) w' ∧ w'.ownsRow w.heap.size 34 3 (.slice (some ⟨w.heap.size, 0, none⟩) 0 c) 0 (caps []) ∧ Below w.heap.size w w' := by
  obtain ⟨i, hi, hz0, hz1, hz2⟩ := info_parts info34
  obtain ⟨w', hr, ho, hg⟩ := run_make_own (P := Try.prog) w w.heap.size 43 34 i _ 3 Try.underlying43 hi hz0 hz1 .i64 .i64 c (by rw [hz2]; omega) (by unfold maxLen; omega) (Nat.le_refl _)
  exact ⟨w', hr, ho, (Below.refl _ _).grown hg (Nat.le_refl _) (fun k hk => by cases hk)⟩
/-- One more, where there is room. -/
theorem append_fits {w : World} {base b n cap : Nat} {K : List Cp} (h : w.ownsRow base 34 3 (.slice (some ⟨b, 0, none⟩) n cap) n (caps K)) {x m : Nat} (c : Cp) (hx : Cel w x 0 c) (hr : n + 1 ≤ cap) :
    ∃ w', (Builtin.append_ #[43, 43] 43 #[.slice (some ⟨b, 0, none⟩) n cap, .slice (some ⟨x, 0, none⟩) 1 m]).run Try.prog w = .ok (.slice (some ⟨b, 0, none⟩) (n + 1) cap) w' ∧ w'.ownsRow base 34 3 (.slice (some ⟨b, 0, none⟩) (n + 1) cap) (n + 1) (caps (K ++ [c])) ∧ But (· = b) w w' := by
  obtain ⟨i, hi, hz0, hz1, hz2⟩ := info_parts info34
  obtain ⟨w', h1, h2, h3⟩ := run_append_fits (P := Try.prog) w base 43 43 34 i 3 Try.underlying43 hi hz1 b n cap (caps K) h ⟨x, 0, none⟩ 1 m (caps [c]) rfl (fun j u hu => by
    rw [addr_add0]
    have hj : j < 3 := (List.getElem?_eq_some_iff.1 hu).1
    have hm : j = 0 ∨ j = 1 ∨ j = 2 := by omega
    rcases hm with rfl | rfl | rfl
    · simp [caps, encC] at hu; rw [← hu]; exact hx.c0
    · simp [caps, encC] at hu; rw [← hu]; exact hx.c1
    · simp [caps, encC] at hu; rw [← hu]; exact hx.c2) (cls_one encC_one [c]) hr
  refine ⟨w', h1, by rw [caps_append]; exact h2, ⟨h3.os, h3.tape, h3.output, h3.size, fun j hj hn => h3.block j hj (fun e => hn (by simpa using e))⟩⟩
/-- What the sort wants. -/
theorem Ca.holds {w : World} {b : Nat} {K : List Cp} (h : Ca w b K) : HoldsK encC 3 w b 0 K.toArray := by
  intro j hj
  rw [size_flatK] at hj
  simp only [List.size_toArray] at hj
  obtain ⟨c, hc⟩ : ∃ c, K[j / 3]? = some c := ⟨_, List.getElem?_eq_getElem (by omega)⟩
  have hg := cls_get encC_len K (j / 3) (j % 3) c hc (by omega)
  have e : j / 3 * 3 + j % 3 = j := by omega
  rw [e] at hg
  have hlt : j % 3 < (encC c).length := by rw [encC_len]; omega
  have h2 : (encC c)[j % 3]? = some (encC c)[j % 3]! := by rw [List.getElem?_eq_getElem hlt, getElem!_pos (encC c) _ hlt]
  refine ⟨?_, by rw [Nat.zero_add]; exact h.fr j⟩
  rw [get_flatK _ _ _ _ (by simpa using hj), Nat.zero_add, h.cells j _ (hg.trans h2)]
  have e3 : K.toArray[j / 3]! = c := by
    have hlt2 : j / 3 < K.length := by omega
    rw [getElem!_pos K.toArray _ (by simpa using hlt2)]
    rw [List.getElem?_eq_getElem hlt2] at hc
    simpa using hc
  rw [e3]
  rfl
theorem ca_sort {w : World} {b n : Nat} {K : List Cp} {os : Array Obj} (h : Ca w b K) : Ca (sortWorldK encC 3 w b 0 n (srt K).toArray os) b (srt K) ∧ But (· = b) w (sortWorldK encC 3 w b 0 n (srt K).toArray os) := by
  have hl : (srt K).length = K.length := (srt_perm K).length_eq
  have hH := holdsK_putRowK encC 3 (Go.Sort.ahead w n) b 0 K.toArray (srt K).toArray (holdsK_ahead encC 3 w n b 0 _ h.holds) (by simp [hl])
  have hsz : (putRowK encC 3 (Go.Sort.ahead w n) b 0 (srt K).toArray).heap.size = w.heap.size := by unfold putRowK; rw [Go.Sort.size_putRow]; rfl
  have hlt : b < (putRowK encC 3 (Go.Sort.ahead w n) b 0 (srt K).toArray).heap.size := by rw [hsz]; exact h.lt
  have hG := holdsK_grow encC 3 _ os b 0 _ hlt hH
  have hbut : But (· = b) w (sortWorldK encC 3 w b 0 n (srt K).toArray os) := by
    refine ⟨rfl, rfl, rfl, ?_, fun j hj hn => ?_⟩
    · unfold sortWorldK
      rw [size_grow, hsz]
      omega
    · unfold sortWorldK
      rw [heap_grow_old _ _ (by rw [hsz]; exact hj)]
      unfold putRowK putRow mapBlock
      have hn' : b ≠ j := fun e => hn e.symm
      simp [Go.Sort.ahead, Array.getElem?_modify, hn']
  refine ⟨⟨Nat.lt_of_lt_of_le h.lt hbut.size, fun j => ?_, fun i c hc => ?_⟩, hbut⟩
  · unfold sortWorldK
    rw [frozen?_grow _ _ _ hlt]
    unfold putRowK
    rw [frozen?_putRow]
    exact h.fr j
  · have hi : i < (srt K).toArray.size := by simpa using (List.getElem?_eq_some_iff.1 hc).1
    have e : (srt K).toArray[i]! = c := by
      rw [getElem!_pos (srt K).toArray i hi]
      simpa using (List.getElem?_eq_some_iff.1 hc).2
    have k0 := (hG.cell (i := i) (c := 0) hi (by omega)).1
    have k1 := (hG.cell (i := i) (c := 1) hi (by omega)).1
    have k2 := (hG.cell (i := i) (c := 2) hi (by omega)).1
    rw [e, Nat.zero_add] at k0 k1 k2
    exact ⟨k0, k1, k2⟩
end Go.Proofs.Ytdkadmnhfnilkaa
