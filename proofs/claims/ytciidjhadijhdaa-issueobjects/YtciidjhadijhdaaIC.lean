import Derived.Test.YtciidjhadijhdaaIB
namespace Go.Proofs.Ytciidjhadijhdaa.D
open Go.RowKit
open Go.Proofs.Ytciidjhadijhdaa.H (B64)
set_option linter.unusedVariables false

def WdRel (w1 : World) (u : Nat → Nat) (m : Nat) (v t : Value) (w' : World) : Prop :=
  ∃ (i : Nat) (a : Option Addr) (c : Nat), i ≤ m ∧ t = .int .i64 (i : Int) ∧ v = .slice a i c ∧ Hid (Ow w' w1.heap.size 31 2 a i c (wvs u i)) ∧ Hid (Below w1.heap.size w1 w')
theorem ow_ws {w : World} {base : Nat} {a : Option Addr} {n cap : Nat} {u : Nat → Nat} (h : Ow w base 31 2 a n cap (wvs u n)) (hs : ∀ i, u i < B64 * B64) : Ws w a n cap u := by
  have h' := h
  rcases h.2 with ⟨h0, h1⟩ | ⟨g, c, cur, hv, hg, hh, hc, _⟩
  · simp only [Value.slice.injEq] at h0
    obtain ⟨rfl, rfl, rfl⟩ := h0
    exact ⟨Nat.le_refl _, fun _ => ⟨rfl, rfl⟩, fun x hx => (by cases hx), hs⟩
  · simp only [Value.slice.injEq] at hv
    obtain ⟨rfl, _, rfl⟩ := hv
    refine ⟨hc, fun e => (by cases e), fun x hx j v hj => ?_, hs⟩
    cases hx
    exact World.ownsRow.cells (g := g) h' rfl j v hj
set_option maxRecDepth 100000 in
set_option maxHeartbeats 2000000 in
/-- The words of an object's tokens. -/
theorem words_any {w : World} {r b mo : Nat} {X : List Tk} {l : Fo} {wh : Int → Int} {ev : Nat} (h : Rf w r b mo X l wh ev) (hv : Inv mo X l) (ht : Tim l wh ev) (o : Int) :
    Calls Try.prog 49 #[.pointer (some ⟨r, 0, none⟩), .int .i64 o] w fun e w' => ∃ a c, e = .returned (.slice a (ofL mo X l o).length c) ∧ Ow w' w.heap.size 31 2 a (ofL mo X l o).length c (wvs (tokW (ofL mo X l o)) (ofL mo X l o).length) ∧ Below w.heap.size w w' := by
  have hc := hid (rof_any h hv ht o)
  have hln := ofL_len hv o
  have hbig := h.big
  have HWD : Hid (∀ (j : Nat) (x : Tok), (ofL mo X l o)[j]? = some x → x.1.2.1 < B64 ∧ x.1.2.2 < B64) := fun j x hx => ofL_wide hv o hx
  generalize ofL mo X l o = L at *
  clear h hv ht
  go_enter Try.func49, Try.ntmps49
  go_upto_region 4 with (first | (go_at_call 62; refine hc.out.mono ?_; rintro e w1 ⟨a, c, rfl, hO, hB⟩; have HO := hid hO; have HB1 := hid hB; clear hO hB))
  clear hc
  go_loopw [5, 7] (WdRel w1 (tokW L) L.length) (fun _ t _ => L.length - (intOf t).toNat)
  case atStart => exact ⟨0, none, 0, Nat.zero_le _, rfl, rfl, Ow.nil _ _ _ _, Below.refl _ _⟩
  case round =>
    obtain ⟨i, a1, c1, hi, rfl, rfl, hO1, hB1⟩ := hrel
    by_cases hlt : i < L.length
    · obtain ⟨x, hx⟩ : ∃ x, L[i]? = some x := ⟨_, List.getElem?_eq_getElem hlt⟩
      obtain ⟨bb, e, hcell⟩ := (HO.out.later hB1.out).at_ (by omega)
      have y1 := hcell (i * 5 + 1) (.int .u64 (x.1.2.1 : Int)) (by rw [toks_get hx 1 (by omega)]; rfl)
      have y2 := hcell (i * 5 + 2) (.int .u64 (x.1.2.2 : Int)) (by rw [toks_get hx 2 (by omega)]; rfl)
      obtain ⟨hx1, hx2⟩ := HWD.out i x hx
      have e1 : hiI (tokW L i) = (x.1.2.1 : Int) := by unfold hiI; rw [tokW_at hx, word_hi hx2]
      have e2 : loI (tokW L i) = (x.1.2.2 : Int) := by unfold loI; rw [tokW_at hx, word_lo hx2]
      rw [← e1] at y1
      rw [← e2] at y2
      have hsz1 := hB1.out.size
      have hlit : Cr (wr.alloc (Obj.cells #[.int .u64 (hiI (tokW L i)), .int .u64 (loI (tokW L i))] 31)) 2 (some ⟨wr.heap.size, 0, none⟩) 1 1 (wcs (tokW L i)) := Cr.lit wr 31 (wcs (tokW L i)) (by intro u hu; simp only [wcs, List.mem_cons, List.not_mem_nil, or_false] at hu; rcases hu with rfl | rfl <;> rfl)
      have hbl := below1 wr (Obj.cells #[.int .u64 (hiI (tokW L i)), .int .u64 (loI (tokW L i))] 31)
      obtain ⟨a5, c5, w5, hrun, hO5, hG5⟩ := append_k 22 31 _ 2 16 Try.underlying22 info31 rfl (by omega) (by omega) (hO1.out.later hbl) hlit (by have := hbl.size; omega) (by omega)
      have hsu := wvs_succ (tokW L) i
      rw [← hsu] at hO5
      have HO5 := hid hO5
      have HB5 : Hid (Below w1.heap.size w1 w5) := But.below hB1.out (hG5.pre hbl).but (fun k hk => (hO1.out.blk k hk).1)
      have HRUN := hid hrun
      have eo : (bb, i * 5 + 1 + 1) = (bb, i * 5 + 2) := rfl
      subst e
      clear hrun hO5 hG5 hlit hbl hsu hO1 hB1 hcell e1 e2 hx hx1 hx2
      generalize hiI (tokW L i) = r0 at *
      generalize loI (tokW L i) = r1 at *
      go_wp2_with (first | (at_builtin; refine wpList_append_known rfl _ _ 22 rfl _ _ rfl rfl _ w5 HRUN.out ?_))
      exact ⟨⟨i + 1, a5, c5, by omega, by go_num, rfl, HO5, HB5⟩, by simp [intOf]; omega⟩
    · obtain rfl : i = L.length := by omega
      go_wp2
      go_ret
      exact ⟨a1, c1, rfl, hO1.out.mono HB1.out.size, below_call HB1.out hB1.out⟩
end Go.Proofs.Ytciidjhadijhdaa.D
