import Derived.Test.YtdkadmnhfnilkaaR3
namespace Go.Proofs.Ytdkadmnhfnilkaa
open Go.RowKit
set_option linter.unusedVariables false
set_option linter.unusedSimpArgs false

theorem cls_take {α : Type} {enc : α → List Value} {k : Nat} (hk : ∀ x, (enc x).length = k) (K : List α) (i : Nat) (hi : i ≤ K.length) : (K.take i).flatMap enc = (K.flatMap enc).take (i * k) := by
  have e : K.flatMap enc = (K.take i).flatMap enc ++ (K.drop i).flatMap enc := by rw [← List.flatMap_append, List.take_append_drop]
  rw [e, List.take_left' (by rw [cls_length hk, List.length_take, Nat.min_eq_left hi])]
theorem cls_drop {α : Type} {enc : α → List Value} {k : Nat} (hk : ∀ x, (enc x).length = k) (K : List α) (i : Nat) (hi : i ≤ K.length) : (K.drop i).flatMap enc = (K.flatMap enc).drop (i * k) := by
  have e : K.flatMap enc = (K.take i).flatMap enc ++ (K.drop i).flatMap enc := by rw [← List.flatMap_append, List.take_append_drop]
  rw [e, List.drop_left' (by rw [cls_length hk, List.length_take, Nat.min_eq_left hi])]
theorem und82 : Try.prog.underlying 82 = some (.slice (Try.prog.elem 82)) := by kernel_rfl
theorem und43 : Try.prog.underlying 43 = some (.slice (Try.prog.elem 43)) := by kernel_rfl
theorem size_el82 (W : World) : (sizeOf (Try.prog.elem 82)).run Try.prog W = .ok 4 W := by
  have e : Try.prog.elem 82 = 94 := by kernel_rfl
  obtain ⟨i, hi, hz0, hz1, hz2⟩ := info_parts info94
  rw [e]
  simp [sizeOf, typeInfo, hi, hz1]
theorem size_el43 (W : World) : (sizeOf (Try.prog.elem 43)).run Try.prog W = .ok 3 W := by
  have e : Try.prog.elem 43 = 34 := by kernel_rfl
  obtain ⟨i, hi, hz0, hz1, hz2⟩ := info_parts info34
  rw [e]
  simp [sizeOf, typeInfo, hi, hz1]
/-- The first i. -/
theorem cut_to {t k : Nat} (und : Try.prog.underlying t = some (.slice (Try.prog.elem t))) (sz : ∀ W, (sizeOf (Try.prog.elem t)).run Try.prog W = .ok k W) {w : World} {base e n cap i : Nat} {a : Option Addr} {L : List Value} (h : w.ownsRow base e k (.slice a n cap) n L) (hi : i ≤ n) (W : World) :
    (Instr.sliceAt t (.slice a n cap) none (some (.int .i64 (i : Int))) none).run Try.prog W = .ok (.slice a i cap) W := by
  have hc : n ≤ cap := by
    rcases h.2 with ⟨h0, hn⟩ | ⟨g, c, cur, hv, _, hh, hc, _⟩
    · omega
    · simp only [Value.slice.injEq] at hv; omega
  rw [run_sliceAt_slice W t _ _ _ _ und, run_slice_h W t _ n cap und .i64 (i : Int) (by omega) (by omega), sz]
  rcases h.2 with ⟨h0, hn⟩ | ⟨g, c, cur, hv, _, hh, _, _⟩
  · simp only [Value.slice.injEq] at h0
    obtain ⟨rfl, _, rfl⟩ := h0
    obtain rfl : i = 0 := by omega
    simp [sliced]
  · simp only [Value.slice.injEq] at hv
    obtain ⟨rfl, _, rfl⟩ := hv
    simp [sliced, Addr.add]
theorem cr_to {w : World} {base e k n cap i : Nat} {a : Option Addr} {L : List Value} (h : w.ownsRow base e k (.slice a n cap) n L) (h1 : ∀ u ∈ L, u.oneCell' = true) (hi : i ≤ n) : Cr w k a i cap (L.take (i * k)) := by
  refine ⟨?_, fun e => ?_, fun x hx j u hu => ?_, fun u hu => h1 u (List.mem_of_mem_take hu)⟩
  · rw [List.length_take, h.1]
    exact Nat.min_eq_left (Nat.mul_le_mul_right _ hi)
  · rcases h.2 with ⟨h0, hn⟩ | ⟨g, c, cur, hv, _⟩
    · simp only [Value.slice.injEq] at h0
      exact ⟨by omega, h0.2.2⟩
    · rw [e] at hv; simp at hv
  · rcases h.2 with ⟨h0, hn⟩ | ⟨g, c, cur, hv, _⟩
    · rw [hx] at h0; simp at h0
    · simp only [Value.slice.injEq] at hv
      obtain ⟨rfl, _, rfl⟩ := hv
      cases hx
      rw [List.getElem?_take] at hu
      split at hu
      · exact h.cells (g := g) rfl j u hu
      · cases hu
/-- From the l-th on. -/
theorem cut_from {t k : Nat} (und : Try.prog.underlying t = some (.slice (Try.prog.elem t))) (sz : ∀ W, (sizeOf (Try.prog.elem t)).run Try.prog W = .ok k W) {w : World} {base e n cap l : Nat} {a : Option Addr} {L : List Value} (h : w.ownsRow base e k (.slice a n cap) n L) (h1 : ∀ u ∈ L, u.oneCell' = true) (hl : l ≤ n) {li : Int} (hli : li = (l : Int)) :
    ∃ x, (∀ W, (Instr.sliceAt t (.slice a n cap) (some (.int .i64 li)) none none).run Try.prog W = .ok (.slice x (n - l) (cap - l)) W) ∧ Cr w k x (n - l) (cap - l) (L.drop (l * k)) := by
  subst hli
  have hlen : (L.drop (l * k)).length = (n - l) * k := by rw [List.length_drop, h.1, Nat.sub_mul]
  have ho : ∀ u ∈ L.drop (l * k), u.oneCell' = true := fun u hu => h1 u (List.mem_of_mem_drop hu)
  have hr : ∀ W : World, (Instr.sliceAt t (.slice a n cap) (some (.int .i64 (l : Int))) none none).run Try.prog W = .ok (sliced a l n cap k) W := fun W => by
    rw [run_sliceAt_slice W t _ _ _ _ und, run_slice_l W t _ n cap und .i64 (l : Int) (by omega) (by omega), sz]
    simp
  rcases h.2 with ⟨h0, hn⟩ | ⟨g, c, cur, hv, _, hh, hc, _⟩
  · simp only [Value.slice.injEq] at h0
    obtain ⟨rfl, _, rfl⟩ := h0
    obtain rfl : l = 0 := by omega
    subst hn
    exact ⟨none, fun W => by rw [hr W]; simp [sliced], ⟨hlen, fun _ => ⟨rfl, rfl⟩, fun x hx => (by cases hx), ho⟩⟩
  · simp only [Value.slice.injEq] at hv
    obtain ⟨rfl, _, rfl⟩ := hv
    by_cases hcl : cap = l
    · refine ⟨some ⟨g, 0, none⟩, fun W => by rw [hr W]; simp [sliced, hcl], ⟨hlen, fun h => (by cases h), fun x hx j u hu => ?_, ho⟩⟩
      have : j < (n - l) * k := by rw [← hlen]; exact (List.getElem?_eq_some_iff.1 hu).1
      have e : n - l = 0 := by omega
      rw [e, Nat.zero_mul] at this
      omega
    · refine ⟨some ⟨g, l * k, none⟩, fun W => by rw [hr W]; simp [sliced, hcl, addr_add0], ⟨hlen, fun h => (by cases h), fun x hx j u hu => ?_, ho⟩⟩
      cases hx
      rw [List.getElem?_drop] at hu
      have := h.cells (g := g) rfl _ u hu
      rw [addr_add0] at this
      rw [addr_add]
      exact this
theorem below_nil {w w' : World} {a' : Option Addr} (h : Gr none a' w w') : Below w.heap.size w w' :=
  ⟨h.but.os, h.but.tape, h.but.output, h.but.size, fun k hk => h.but.block k hk (fun e => by obtain ⟨_, e, _⟩ := e; cases e)⟩
theorem Gr.below' {w w' : World} {base : Nat} {e : TypeId} {k : Nat} {a a' : Option Addr} {n cap : Nat} {L : List Value} (g : Gr a a' w w') (h : w.ownsRow base e k (.slice a n cap) n L) (hb : base ≤ w.heap.size) : Below base w w' :=
  ⟨g.but.os, g.but.tape, g.but.output, g.but.size, fun j hj => g.but.block j (by omega) (fun hs => by have := (own_block h j (Blk.of.2 hs)).1; omega)⟩
set_option maxRecDepth 100000 in
set_option maxHeartbeats 1000000 in
theorem rdrop_none {w : World} {g mo : Nat} {a : Option Addr} {cap : Nat} {E : List (Cp × Int)} (h : Rf w g mo a cap E) (o : Int) (hi lo : Nat) (hc : (o, hi, lo) ∉ E.map Prod.fst) :
    Calls Try.prog 40 #[.pointer (some ⟨g, 0, none⟩), .agg #[.int .i64 o, .int .u64 (hi : Int), .int .u64 (lo : Int)]] w fun e w' => e = .returned (.bool false) ∧ Below w.heap.size w w' := by
  have HH := hid h
  have HC := hid hc
  clear h hc
  go_enter Try.func40, Try.ntmps40
  go_wp2_with (first | (go_at_call 53; refine (rat_none (HH.out.alloc _) o hi lo HC.out).mono ?_; rintro e w2 ⟨rfl, hb2⟩; have HB2 := hid (below_call (below1 _ _) hb2); clear hb2))
  go_ret
  exact ⟨rfl, HB2.out⟩
/-- Behind a Drop of the document's that goes through. -/
def Rdrop (w : World) (g mo : Nat) (E : List (Cp × Int)) (c : Cp) (w' : World) : Prop :=
  ∃ (i : Nat) (v : Int) (a' : Option Addr) (cap' : Nat), E[i]? = some (c, v) ∧ Rf w' g mo a' cap' (E.take i ++ E.drop (i + 1)) ∧ But (· = g) w w' ∧ ∀ k, Blk a' k → w.heap.size ≤ k
set_option maxRecDepth 100000 in
set_option maxHeartbeats 2000000 in
theorem rdrop_ok {w : World} {g mo : Nat} {a : Option Addr} {cap : Nat} {E : List (Cp × Int)} (h : Rf w g mo a cap E) (o : Int) (hi lo : Nat) (hc : (o, hi, lo) ∈ E.map Prod.fst) :
    Calls Try.prog 40 #[.pointer (some ⟨g, 0, none⟩), .agg #[.int .i64 o, .int .u64 (hi : Int), .int .u64 (lo : Int)]] w fun e w' => e = .returned (.bool true) ∧ Rdrop w g mo E (o, hi, lo) w' := by
  have HH := hid h
  have HC := hid hc
  have hsm := h.small
  clear h hc
  go_enter Try.func40, Try.ntmps40
  go_upto_region 5 with (first | (go_at_call 53; refine (rat_there (HH.out.alloc _) o hi lo HC.out).mono ?_; rintro e w2 ⟨i, v, hi_, rfl, hb2⟩; have HI := hid hi_; have HB2 := hid (below_call (below1 _ _) hb2); clear hb2 hi_))
  have hR := HH.out.later HB2.out
  have hlt : i < E.length := (List.getElem?_eq_some_iff.1 HI.out).1
  have x1 := hR.c1.1
  have hct := cut_to (t := 82) und82 size_el82 hR.own (Nat.le_of_lt hlt) w2
  have hcr := cr_to hR.own (prs_one E) (Nat.le_of_lt hlt)
  obtain ⟨x, hcf, hcr2⟩ := cut_from (t := 82) und82 size_el82 hR.own (prs_one E) (show i + 1 ≤ E.length by omega) (li := (i : Int) + 1) (by omega)
  obtain ⟨a1, c1, w3, hrun1, hO1, hG1⟩ := append_k 82 94 _ 4 32 Try.underlying82 info94 rfl (by decide) (by decide) (w := w2) (base := w2.heap.size) (a := none) (n := 0) (cap := 0) (L := []) ⟨rfl, .inl ⟨rfl, rfl⟩⟩ hcr (Nat.le_refl _) (by omega)
  have hB1 := below_nil hG1
  have hct2 := hcf w3
  rw [Nat.zero_add] at hrun1 hO1
  obtain ⟨a2, c2, w4, hrun2, hO2, hG2⟩ := append_k 82 94 _ 4 32 Try.underlying82 info94 rfl (by decide) (by decide) hO1 (hcr2.later hB1) hB1.size (by omega)
  have hB2 : Below w2.heap.size w2 w4 := hB1.trans (Gr.below' hG2 hO1 hB1.size)
  have e1 : i + (E.length - (i + 1)) = E.length - 1 := by omega
  rw [e1] at hrun2 hO2
  have el : (E.take i ++ E.drop (i + 1)).length = E.length - 1 := by simp; omega
  have HO2 : Hid (w4.ownsRow 0 94 4 (.slice a2 (E.length - 1) c2) (E.length - 1) (prs (E.take i ++ E.drop (i + 1)))) := by
    unfold Hid
    rw [prs_append, show prs (E.take i) = (prs E).take (i * 4) from cls_take encP_len E i (by omega), show prs (E.drop (i + 1)) = (prs E).drop ((i + 1) * 4) from cls_drop encP_len E (i + 1) (by omega)]
    have := own_mono hO2 (Nat.zero_le _)
    simpa using this
  have HBK : Hid (∀ k, Blk a2 k → w2.heap.size ≤ k) := hid (fun k hk => (own_block hO2 k (Blk.of.2 hk)).1)
  have x2 := cell_later hB1 x1
  have hL4 := hR.c1.later hB2
  have y1 := hL4.1
  have y2 := hL4.2
  have hgl := hR.lt
  have HR4 := hid (hR.later hB2)
  have HB4 := hid (below_call HB2.out hB2)
  have HRUN1 := hid hrun1
  have HRUN2 := hid hrun2
  have HEL := hid el
  have hsz2 := HB2.out.size
  have hwr : IntKind.i64.wrap ((i : Int) + 1) = (i : Int) + 1 := by rw [IntKind.wrap_i64]; omega
  clear hR hcr hcf hcr2 hrun1 hO1 hG1 hB1 hrun2 hO2 hG2 hB2 e1 el hL4
  go_upto_region 6 with (first | (at_builtin; refine wpList_append_known rfl _ _ 82 rfl _ _ rfl rfl _ w3 HRUN1.out ?_))
  go_wp2_with (first | (at_builtin; refine wpList_append_known rfl _ _ 82 rfl _ _ rfl rfl _ w4 HRUN2.out ?_))
  go_ret
  refine ⟨rfl, i, v, a2, c2, HI.out, ?_, But.setCell (S := (· = g)) (But.of HB4.out) (p := ⟨g, 1, none⟩) (show g = g from rfl) _, fun k hk => Nat.le_trans hsz2 (HBK.out k hk)⟩
  have hne : ∀ k, Blk a2 k → k ≠ g := fun k hk e => by have := HBK.out k hk; omega
  refine ⟨?_, ?_, ?_, hne, by rw [HEL.out]; omega, fun c hc => HR4.out.ok c ?_⟩
  · rw [World.cell?_setCell_other _ _ _ _ (fun e => by cases e)]
    exact HR4.out.c0
  · rw [HEL.out]
    exact HR4.out.c1.put
  · rw [HEL.out]
    exact own_but (S := (· = g)) ((But.refl (· = g) _).setCell (p := ⟨g, 1, none⟩) (show g = g from rfl) _) HO2.out (fun k hk => hne k (Blk.of.1 hk))
  · rw [List.map_append, List.mem_append] at hc
    rcases hc with hc | hc
    · obtain ⟨y, hy, rfl⟩ := List.mem_map.1 hc
      exact List.mem_map.2 ⟨y, List.mem_of_mem_take hy, rfl⟩
    · obtain ⟨y, hy, rfl⟩ := List.mem_map.1 hc
      exact List.mem_map.2 ⟨y, List.mem_of_mem_drop hy, rfl⟩
end Go.Proofs.Ytdkadmnhfnilkaa
