import Derived.Test.YticgammbjcdobaaQJ
import Derived.Deep.CutBlock
import Derived.Deep.DeepCutAuto
namespace Go.Proofs.Yticgammbjcdobaa
open Go.RowKit
set_option linter.unusedVariables false
set_option linter.unusedSimpArgs false
/-- Another list for a process. -/
theorem Bk.lists_set {S : Nat → Prop} {U w7 : World} {m : Bm} {B : Bv} (h : Bk U m B) {p : Int} (hp : I64 p) {s s' : Sl} {l l' : List Cp} (hs : Lsl m.I p s l) (hb : But S U w7) (hS : ∀ j, S j → Blk s.a j) (ho : Ow w7 (m.g + 1) 31 3 s'.a s'.n s'.c (capsL l')) (hl' : l'.length = s'.n) (hf : ∀ c ∈ l', c.far) (hd : ∀ j, Blk s'.a j → Blk s.a j ∨ ¬ Owb m j) :
    ∃ w8 m', (Instr.mapUpdate 61 (.map (some m.bi)) (.int .i64 p) (.slice s'.a s'.n s'.c)).run Try.prog w7 = .ok () w8 ∧ Bk w8 m' { B with lists := up1 B.lists p l' } ∧ m'.g = m.g ∧ But (Owb m) U w8 ∧ (∀ j, Owb m' j → Owb m j ∨ Blk s'.a j) ∧ m'.cells = m.cells ∧ But (Owb m) U w7 := by
  have hsI : ∀ j, Blk s.a j → ∃ k ∈ m.I, Blk k.s.a j := fun j hj => by
    rcases hs with hk | ⟨rfl, _, _⟩
    · exact ⟨_, hk, hj⟩
    · obtain ⟨x, hx, _⟩ := hj
      cases hx
  have hgl : m.g < U.heap.size := h.bw.lo m.g (by simp)
  obtain ⟨w8, I', r8, m8, hin, b8⟩ := h.bw.lists.set hp (s' := s') (l' := l') hs hb (fun hj => by
    obtain ⟨k, hk, hj2⟩ := hsI _ (hS _ hj)
    obtain ⟨es, clk, h1, _⟩ := h.bw.lists.out.ex
    exact map_ne h1 (h.bw.lists.each k hk).1 hj2) hS ho hl' (fun j hj => (hd j hj).imp id (fun h1 k hk hj2 => h1 (.inr (.inl ⟨k, hk, hj2⟩))))
  have hb7 : But (fun j => j = m.bi ∨ ∃ k ∈ m.I, Blk k.s.a j) U w7 := hb.mono (fun j hj => .inr (hsI j (hS j hj)))
  have hb8 : But (fun j => j = m.bi ∨ ∃ k ∈ m.I, Blk k.s.a j) U w8 := hb7.trans (b8.mono (fun j e => .inl e))
  have hown : ∀ j, (j = m.bi ∨ ∃ k ∈ m.I, Blk k.s.a j) → Owb m j := fun j hj => by
    rcases hj with rfl | hj
    · exact .inl (by simp [Bm.blks])
    · exact .inr (.inl hj)
  obtain ⟨q1, q2, q3⟩ := h.bw.lists_to hb8 (fun j hj => hj) m8 (fun x hx j hj => by
    rcases (hin x).1 hx with rfl | ⟨h1, _⟩
    · rcases hd j hj with h1 | h1
      · exact .inl (hsI j h1)
      · exact .inr h1
    · exact .inl ⟨x, h1, hj⟩)
  refine ⟨w8, { m with I := I' }, r8, ⟨q1, h.n, h.live, h.laid.mono (fun v a hr => hr.but h.bw q2 (fun _ h => h)), h.told.mono (fun v a hr => hr.but h.bw q2 (fun _ h => h)), h.lists.set hin hf, h.known, h.kne, h.cnt⟩, rfl, q2, fun j hj => ?_, rfl, hb7.mono hown⟩
  rcases q3 j hj with h1 | ⟨x, hx, hj2⟩
  · exact .inl h1
  · rcases (hin x).1 hx with rfl | ⟨h2, _⟩
    · exact .inr hj2
    · exact .inl (.inr (.inl ⟨x, h2, hj2⟩))
/-- A gift. -/
def spS (L : List Cp) (b nu : Int) (r : List Cp × Bv) (g : Int) : List Cp × Bv :=
  if 0 ≤ g ∧ g < (L.length : Int) then
    match L[g.toNat]? with
    | some x => (r.1 ++ [x], match tgV r.2 b x with | some ls => tellV r.2 4 b nu x ls | none => r.2)
    | none => r
  else r
def spV (L : List Cp) (b nu : Int) (B : Bv) (gs : List Int) : List Cp × Bv := gs.foldl (spS L b nu) ([], B)
theorem spS_n (L : List Cp) (b nu : Int) (r : List Cp × Bv) (g : Int) : (spS L b nu r g).2.n = r.2.n ∧ (spS L b nu r g).2.lists = r.2.lists ∧ (spS L b nu r g).2.laid = r.2.laid ∧ (spS L b nu r g).2.live = r.2.live ∧ (∀ p, ((spS L b nu r g).2.known p).length ≤ (r.2.known p).length + 1) ∧ (spS L b nu r g).1.length ≤ r.1.length + 1 ∧ ∀ c ∈ (spS L b nu r g).1, c ∈ r.1 ∨ c ∈ L := by
  unfold spS
  split
  · split
    · rename_i x hx
      simp only [List.length_append, List.length_singleton]
      refine ⟨?_, ?_, ?_, ?_, fun p => ?_, by omega, fun c hc => ?_⟩
      · split
        · exact (tellV_n _ _ _ _ _ _).1
        · rfl
      · split
        · exact (tellV_n _ _ _ _ _ _).2.2.1
        · rfl
      · split
        · exact (tellV_n _ _ _ _ _ _).2.1
        · rfl
      · split
        · exact (tellV_n _ _ _ _ _ _).2.2.2
        · rfl
      · split
        · exact tellV_len _ _ _ _ _ _ _
        · omega
      · rcases List.mem_append.1 hc with hc | hc
        · exact .inl hc
        · rw [List.mem_singleton.1 hc]
          exact .inr (List.mem_of_getElem? hx)
    · exact ⟨rfl, rfl, rfl, rfl, fun p => by omega, by omega, fun c hc => .inl hc⟩
  · exact ⟨rfl, rfl, rfl, rfl, fun p => by omega, by omega, fun c hc => .inl hc⟩
theorem spF_n (L : List Cp) (b nu : Int) : ∀ (gs : List Int) (r : List Cp × Bv), (gs.foldl (spS L b nu) r).2.n = r.2.n ∧ (gs.foldl (spS L b nu) r).2.lists = r.2.lists ∧ (gs.foldl (spS L b nu) r).2.laid = r.2.laid ∧ (gs.foldl (spS L b nu) r).2.live = r.2.live ∧ (∀ p, ((gs.foldl (spS L b nu) r).2.known p).length ≤ (r.2.known p).length + gs.length) ∧ (gs.foldl (spS L b nu) r).1.length ≤ r.1.length + gs.length ∧ ∀ c ∈ (gs.foldl (spS L b nu) r).1, c ∈ r.1 ∨ c ∈ L
  | [], r => ⟨rfl, rfl, rfl, rfl, fun p => by simp, by simp, fun c hc => .inl hc⟩
  | g :: gs, r => by
    obtain ⟨h1, h2, h3, h4, h5, h6, h7⟩ := spF_n L b nu gs (spS L b nu r g)
    obtain ⟨k1, k2, k3, k4, k5, k6, k7⟩ := spS_n L b nu r g
    simp only [List.foldl_cons, List.length_cons]
    exact ⟨h1.trans k1, h2.trans k2, h3.trans k3, h4.trans k4, fun p => by have := h5 p; have := k5 p; omega, by omega, fun c hc => (h7 c hc).elim (fun h => k7 c h) .inr⟩
theorem spV_n (L : List Cp) (b nu : Int) (B : Bv) (gs : List Int) : (spV L b nu B gs).2.n = B.n ∧ (spV L b nu B gs).2.lists = B.lists ∧ (spV L b nu B gs).2.laid = B.laid ∧ (spV L b nu B gs).2.live = B.live ∧ (∀ p, ((spV L b nu B gs).2.known p).length ≤ (B.known p).length + gs.length) ∧ (spV L b nu B gs).1.length ≤ gs.length ∧ ∀ c ∈ (spV L b nu B gs).1, c ∈ L := by
  obtain ⟨h1, h2, h3, h4, h5, h6, h7⟩ := spF_n L b nu gs ([], B)
  exact ⟨h1, h2, h3, h4, h5, by have h := h6; simp only [List.length_nil, Nat.zero_add] at h; exact h, fun c hc => (h7 c hc).elim (fun h => by cases h) id⟩
theorem spV_take (L : List Cp) (b nu : Int) (B : Bv) (gs : List Int) (k : Nat) (g : Int) (hk : gs[k]? = some g) : spV L b nu B (gs.take (k + 1)) = spS L b nu (spV L b nu B (gs.take k)) g := by
  unfold spV
  have hkl := (List.getElem?_eq_some_iff.1 hk)
  obtain ⟨h1, h2⟩ := hkl
  rw [List.take_succ_eq_append_getElem h1, List.foldl_append, h2]
  rfl
end Go.Proofs.Yticgammbjcdobaa
