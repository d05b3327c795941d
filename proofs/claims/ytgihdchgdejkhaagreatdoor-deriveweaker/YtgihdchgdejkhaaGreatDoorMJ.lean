import Derived.Test.YtgihdchgdejkhaaGreatDoorRI
import Derived.Test.YtgihdchgdejkhaaGreatDoorMI
namespace Go.Proofs.YtgihdchgdejkhaaGreatDoor
open Go.RowKit H
set_option linter.unusedVariables false

/-- The tokens that Of tells are those of the object. -/
theorem ofL_iff {m : Nat} {X : List Tk} {l : Fo} (h : Inv m X l) (o : Int) (c : Cp) : (∃ (j : Nat) (x : Tok), (ofL m X l o)[j]? = some x ∧ x.1 = c) ↔ c.1 = o ∧ hasC X l c = true := by
  cases hf : rootOf X l o with
  | none =>
    have e : ofL m X l o = [] := by unfold ofL; rw [hf]
    rw [e]
    constructor
    · rintro ⟨j, x, hx, _⟩
      simp at hx
    · rintro ⟨rfl, hc⟩
      obtain ⟨r, hr, ho⟩ := h.rootO.1 (hasO_of_hasC hc)
      have := rootOf_some h hr
      rw [ho, hf] at this
      cases this
  | some r =>
    obtain ⟨hr, ho⟩ := rootOf_in hf
    have e : ofL m X l o = (ofF X l m (G true l r)).2 := by unfold ofL; rw [hf]
    have hs := (ofF_spec (X := X) h.ok hr (G true l r).length (Nat.le_refl _)).2
    rw [List.take_length] at hs
    have hlen := ofF_len2 X l m (G true l r)
    rw [e]
    constructor
    · rintro ⟨j, x, hx, rfl⟩
      have hj := (List.getElem?_eq_some_iff.1 hx).1
      rw [hlen] at hj
      obtain ⟨q, hq, _⟩ := hs j _ hj (List.getElem?_eq_getElem hj)
      rw [hx] at hq
      cases hq
      have hm := (h.mem_root hr).1 (List.getElem_mem hj)
      exact ⟨by rw [← ho]; exact hm.2, hasC_iff.2 ⟨_, hm.1, rfl⟩⟩
    · rintro ⟨rfl, hc⟩
      obtain ⟨n, hn, rfl⟩ := hasC_iff.1 hc
      have hm := (h.mem_root hr).2 ⟨hn, by rw [ho]; rfl⟩
      obtain ⟨j, hj⟩ := List.getElem?_of_mem hm
      obtain ⟨q, hq, _⟩ := hs j n (List.getElem?_eq_some_iff.1 hj).1 hj
      exact ⟨j, _, hq, rfl⟩
theorem toks_get : ∀ {L : List Tok} {i : Nat} {x : Tok}, L[i]? = some x → ∀ c, c < 5 → (toks L)[i * 5 + c]? = (encT x)[c]?
  | [], i, x, h, c, hc => by simp at h
  | y :: L, 0, x, h, c, hc => by
    obtain rfl : y = x := by simpa using h
    show (encT y ++ toks L)[0 * 5 + c]? = _
    rw [List.getElem?_append_left (by simp [encT]; omega)]
    congr 1; omega
  | y :: L, i + 1, x, h, c, hc => by
    show (encT y ++ toks L)[(i + 1) * 5 + c]? = _
    have hl : (encT y).length = 5 := rfl
    rw [List.getElem?_append_right (by rw [hl]; omega), hl]
    have : (i + 1) * 5 + c - 5 = i * 5 + c := by omega
    rw [this]
    exact toks_get (L := L) (by simpa using h) c hc
/-- The word of the i-th token, as a number. -/
def tokW (L : List Tok) (i : Nat) : Nat := match L[i]? with
  | some x => x.1.2.1 * B64 + x.1.2.2
  | none => 0
theorem tokW_at {L : List Tok} {i : Nat} {x : Tok} (h : L[i]? = some x) : tokW L i = x.1.2.1 * B64 + x.1.2.2 := by unfold tokW; rw [h]
theorem ofL_wide {m : Nat} {X : List Tk} {l : Fo} (h : Inv m X l) (o : Int) {j : Nat} {x : Tok} (hx : (ofL m X l o)[j]? = some x) : x.1.2.1 < B64 ∧ x.1.2.2 < B64 := by
  obtain ⟨_, hc⟩ := (ofL_iff h o x.1).1 ⟨j, x, hx, rfl⟩
  obtain ⟨n, hn, e⟩ := hasC_iff.1 hc
  rw [← e]
  exact h.wide n hn
theorem word_hi {a b : Nat} (h : b < B64) : (a * B64 + b) / B64 = a := by
  have h0 : 0 < B64 := by decide
  rw [Nat.mul_comm, Nat.mul_add_div h0, Nat.div_eq_of_lt h, Nat.add_zero]
theorem word_lo {a b : Nat} (h : b < B64) : (a * B64 + b) % B64 = b := by
  rw [Nat.mul_comm, Nat.mul_add_mod, Nat.mod_eq_of_lt h]
theorem word_lt {a b : Nat} (h1 : a < B64) (h2 : b < B64) : a * B64 + b < B64 * B64 := by
  have : a * B64 + B64 ≤ B64 * B64 := by
    rw [← Nat.succ_mul]; exact Nat.mul_le_mul_right _ h1
  omega
theorem tokW_small {m : Nat} {X : List Tk} {l : Fo} (h : Inv m X l) (o : Int) (i : Nat) : tokW (ofL m X l o) i < B64 * B64 := by
  unfold tokW
  split
  · next x hx => exact word_lt (ofL_wide h o hx).1 (ofL_wide h o hx).2
  · decide
theorem ofL_len {m : Nat} {X : List Tk} {l : Fo} (h : Inv m X l) (o : Int) : (ofL m X l o).length ≤ m := by
  unfold ofL
  split
  · rw [ofF_len2]; exact G_len h.ok _ _
  · exact Nat.zero_le _
end Go.Proofs.YtgihdchgdejkhaaGreatDoor
namespace Go.Proofs.YtgihdchgdejkhaaGreatDoor.D
open Go.RowKit
open Go.Proofs.YtgihdchgdejkhaaGreatDoor.H (B64)
set_option linter.unusedVariables false

/-- Has a token of the object the word? -/
def ofP (X : List Tk) (l : Fo) (o : Int) (N : Nat) : Bool := hasC X l (o, N / B64, N % B64)
theorem words_has {m : Nat} {X : List Tk} {l : Fo} (h : Inv m X l) (o : Int) (N : Nat) : hasW (tokW (ofL m X l o)) (ofL m X l o).length N = ofP X l o N := by
  have key : hasW (tokW (ofL m X l o)) (ofL m X l o).length N = true ↔ ofP X l o N = true := by
    rw [hasW_iff]
    constructor
    · rintro ⟨i, hi, e⟩
      obtain ⟨x, hx⟩ : ∃ x, (ofL m X l o)[i]? = some x := ⟨_, List.getElem?_eq_getElem hi⟩
      rw [tokW_at hx] at e
      obtain ⟨h1, h2⟩ := ofL_wide h o hx
      obtain ⟨h3, h4⟩ := (ofL_iff h o x.1).1 ⟨i, x, hx, rfl⟩
      show hasC X l (o, N / B64, N % B64) = true
      rw [← e, word_hi h2, word_lo h2, ← h3]
      exact h4
    · intro hc
      obtain ⟨j, x, hx, e⟩ := (ofL_iff h o (o, N / B64, N % B64)).2 ⟨rfl, hc⟩
      refine ⟨j, (List.getElem?_eq_some_iff.1 hx).1, ?_⟩
      rw [tokW_at hx, e]
      show N / B64 * B64 + N % B64 = N
      have := Nat.div_add_mod N B64
      rw [Nat.mul_comm] at this
      exact this
  cases h1 : hasW (tokW (ofL m X l o)) (ofL m X l o).length N with
  | true => exact (key.1 h1).symm
  | false =>
    cases h2 : ofP X l o N with
    | false => rfl
    | true => rw [key.2 h2] at h1; cases h1
theorem half_lt {N : Nat} (h : N < B64 * B64) : N / B64 < B64 ∧ N % B64 < B64 := ⟨Nat.div_lt_of_lt_mul h, Nat.mod_lt _ (by decide)⟩
set_option maxRecDepth 100000 in
set_option maxHeartbeats 1000000 in
/-- Of's closure. -/
theorem isOf_any {w : World} {k1 k2 : Nat} {A : Ad} {kn mo : Nat} {X : List Tk} {l : Fo} {o : Int} (h1 : w.cell? ⟨k1, 0, none⟩ = some (.pointer (some ⟨A.g, 0, none⟩))) (h2 : w.cell? ⟨k2, 0, none⟩ = some (.int .i64 o)) (h : Cat w A kn mo X l) {N : Nat} (hN : N < B64 * B64) :
    Calls Tryz.prog 93 #[.agg #[.int .u64 (hiI N), .int .u64 (loI N)], .pointer (some ⟨k1, 0, none⟩), .pointer (some ⟨k2, 0, none⟩)] w fun e w' => e = .returned (.bool (ofP X l o N)) ∧ Below w.heap.size w w' := by
  have hb := below1 w (Obj.cells #[.int .u64 (hiI N), .int .u64 (loI N)] 30)
  have hc : Hid (Calls Tryz.prog 37 #[.pointer (some ⟨A.g, 0, none⟩), .agg #[.int .i64 o, .int .u64 (hiI N), .int .u64 (loI N)]] (w.alloc (Obj.cells #[.int .u64 (hiI N), .int .u64 (loI N)] 30)) fun e w' => e = .returned (.tuple #[.int .i64 (findN X l (o, N / B64, N % B64)), .bool (ofP X l o N)]) ∧ Below (w.alloc (Obj.cells #[.int .u64 (hiI N), .int .u64 (loI N)] 30)).heap.size (w.alloc (Obj.cells #[.int .u64 (hiI N), .int .u64 (loI N)] 30)) w') := cfind_any (h.later hb) (o, N / B64, N % B64) (half_lt hN)
  have y1 := cell_later hb h1
  have y2 := cell_later hb h2
  generalize findN X l (o, N / B64, N % B64) = q at *
  generalize ofP X l o N = P at *
  clear h h1 h2 hb
  go_enter Tryz.func93, Tryz.ntmps93
  go_wp2_with (first | (go_at_call 37; refine hc.out.mono ?_; rintro e w1 ⟨rfl, hB⟩; have HB := hid hB; clear hB))
  go_ret
  exact ⟨rfl, below_call (below1 _ _) HB.out⟩
set_option maxRecDepth 100000 in
set_option maxHeartbeats 1000000 in
/-- issue.Of. -/
theorem iof_any {w : World} {g gb n : Nat} {c : Nat → Nat} {t : Nat} (h : Dr w g gb n c t) (hcs : ∀ i, i < n → c i < B64 * B64) {A : Ad} {kn mo : Nat} {X : List Tk} {l : Fo} (hc : Cat w A kn mo X l) (hn : ∀ k, A.All k → k ≠ g) (o : Int) :
    Calls Tryz.prog 59 #[.pointer (some ⟨g, 0, none⟩), .pointer (some ⟨A.g, 0, none⟩), .int .i64 o] w (Drawn w g gb n c t (ofP X l o)) := by
  obtain ⟨w1, hw1⟩ : ∃ w1, w1 = ((w.alloc (Obj.cells #[.pointer (some ⟨A.g, 0, none⟩)] 41)).alloc (Obj.cells #[.int .i64 o] 3)).alloc (Obj.cells #[.int .u64 0, .int .u64 0] 30) := ⟨_, rfl⟩
  have hB1 : Below w.heap.size w w1 := by rw [hw1]; exact (below2 _ _ _).alloc (by simp; omega) _
  have x0 : w1.cell? ⟨w.heap.size, 0, none⟩ = some (.pointer (some ⟨A.g, 0, none⟩)) := by rw [hw1]; simp [go_sem]
  have x1 : w1.cell? ⟨w.heap.size + 1, 0, none⟩ = some (.int .i64 o) := by rw [hw1]; simp [go_sem]
  have l0 : Lies w1 ⟨w.heap.size + 1 + 1, 0, none⟩ (.int .u64 0) := by rw [hw1]; exact ⟨by simp [go_sem], by simp [go_sem]⟩
  have l1 : Lies w1 ⟨w.heap.size + 1 + 1, 1, none⟩ (.int .u64 0) := by rw [hw1]; exact ⟨by simp [go_sem], by simp [go_sem]⟩
  have hg := h.lt
  have HG := hid h.lt2
  have hcc := hid (fresh50 (h.later hB1) hcs (ofP X l o) w.heap.size (w.heap.size + 1) (fun W hW N hN => isOf_any (cell_but hW x0 (by show ¬ (w.heap.size = g); omega)) (cell_but hW x1 (by show ¬ (w.heap.size + 1 = g); omega)) ((hc.later hB1).but hW (fun k hk => hn k hk)) hN))
  have HB1 : Hid (But (· = g) w w1) := But.of hB1
  have HL := hid (And.intro l0 l1)
  clear h hc hB1 x0 x1 l0 l1 hn
  go_enter Tryz.func59, Tryz.ntmps59
  go_upto_region 1 with fail
  rw [← hw1]
  clear hw1
  obtain ⟨R, hR⟩ : ∃ R, R = drawR (ofP X l o) c n 9 t := ⟨_, rfl⟩
  unfold Drawn at hcc
  rw [← hR] at hcc
  have HR := hid hR
  clear hR
  go_upto_region 2 with (first | (go_at_call 92; refine hcc.out.mono ?_; rintro e w2 ⟨rfl, hD, hB⟩; have HD := hid hD; have HB := hid (HB1.out.trans hB); have HL2 : Hid (Lies w2 ⟨w.heap.size + 1 + 1, 0, none⟩ (.int .u64 0) ∧ Lies w2 ⟨w.heap.size + 1 + 1, 1, none⟩ (.int .u64 0)) := ⟨HL.out.1.but hB (by show ¬ (w.heap.size + 1 + 1 = g); omega), HL.out.2.but hB (by show ¬ (w.heap.size + 1 + 1 = g); omega)⟩; clear hD hB; have x0 := HL2.out.1.1; have x1 := HL2.out.2.1; have f0 := HL2.out.1.2; have f1 := HL2.out.2.2))
  have HQ := hid (two_set x0 x1 (.int .u64 (hiI R.1)) (.int .u64 (loI R.1)))
  refine bodyPost_ret (v := .tuple #[.agg #[.int .u64 (hiI R.1), .int .u64 (loI R.1)], .int .i64 R.2.1]) (by simp [results, Tryz.results59, go_sem, HQ.out.1, HQ.out.2]) rfl ?_
  show Drawn _ _ _ _ _ _ _ _ _
  unfold Drawn
  rw [← HR.out]
  refine ⟨rfl, ?_, ?_⟩
  · exact (HD.out.freshN (b := w.heap.size + 1 + 1) (by omega) (fun h0 => by have := HG.out h0; omega) 0 _).freshN (b := w.heap.size + 1 + 1) (by omega) (fun h0 => by have := HG.out h0; omega) 1 _
  · exact (HB.out.put (p := ⟨w.heap.size + 1 + 1, 0, none⟩) (by show _ ≤ w.heap.size + 1 + 1; omega) _).put (p := ⟨w.heap.size + 1 + 1, 1, none⟩) (by show _ ≤ w.heap.size + 1 + 1; omega) _
end Go.Proofs.YtgihdchgdejkhaaGreatDoor.D
namespace Go.Proofs.YtgihdchgdejkhaaGreatDoor.D
open Go.RowKit
open Go.Proofs.YtgihdchgdejkhaaGreatDoor.H (B64)
set_option linter.unusedVariables false

def WdRel (w1 : World) (u : Nat → Nat) (m : Nat) (v t : Value) (w' : World) : Prop :=
  ∃ (i : Nat) (a : Option Addr) (c : Nat), i ≤ m ∧ t = .int .i64 (i : Int) ∧ v = .slice a i c ∧ Hid (Ow w' w1.heap.size 30 2 a i c (wvs u i)) ∧ Hid (Below w1.heap.size w1 w')
theorem ow_ws {w : World} {base : Nat} {a : Option Addr} {n cap : Nat} {u : Nat → Nat} (h : Ow w base 30 2 a n cap (wvs u n)) (hs : ∀ i, u i < B64 * B64) : Ws w a n cap u := by
  have h' := h
  rcases h.2 with ⟨h0, h1⟩ | ⟨g, c, cur, hv, hg, hh, hc, _⟩
  · simp only [Value.slice.injEq] at h0
    obtain ⟨rfl, rfl, rfl⟩ := h0
    exact ⟨Nat.le_refl _, fun _ => ⟨rfl, rfl⟩, fun x hx => (by cases hx), hs⟩
  · simp only [Value.slice.injEq] at hv
    obtain ⟨rfl, _, rfl⟩ := hv
    refine ⟨hc, fun e => (by cases e), fun x hx j v hj => ?_, hs⟩
    cases hx
    exact World.ownsRow.cells (g := g) h' rfl j v hj
set_option maxRecDepth 100000 in
set_option maxHeartbeats 2000000 in
/-- The words of an object's tokens. -/
theorem words_any {w : World} {r b mo : Nat} {X : List Tk} {l : Fo} {wh : Int → Int} {ev : Nat} (h : Rf w r b mo X l wh ev) (hv : Inv mo X l) (ht : Tim l wh ev) (o : Int) :
    Calls Tryz.prog 105 #[.pointer (some ⟨r, 0, none⟩), .int .i64 o] w fun e w' => ∃ a c, e = .returned (.slice a (ofL mo X l o).length c) ∧ Ow w' w.heap.size 30 2 a (ofL mo X l o).length c (wvs (tokW (ofL mo X l o)) (ofL mo X l o).length) ∧ Below w.heap.size w w' := by
  have hc := hid (rof_any h hv ht o)
  have hln := ofL_len hv o
  have hbig := h.big
  have HWD : Hid (∀ (j : Nat) (x : Tok), (ofL mo X l o)[j]? = some x → x.1.2.1 < B64 ∧ x.1.2.2 < B64) := fun j x hx => ofL_wide hv o hx
  generalize ofL mo X l o = L at *
  clear h hv ht
  go_enter Tryz.func105, Tryz.ntmps105
  go_upto_region 4 with (first | (go_at_call 42; refine hc.out.mono ?_; rintro e w1 ⟨a, c, rfl, hO, hB⟩; have HO := hid hO; have HB1 := hid hB; clear hO hB))
  clear hc
  go_loopw [5, 7] (WdRel w1 (tokW L) L.length) (fun _ t _ => L.length - (intOf t).toNat)
  case atStart => exact ⟨0, none, 0, Nat.zero_le _, rfl, rfl, Ow.nil _ _ _ _, Below.refl _ _⟩
  case round =>
    obtain ⟨i, a1, c1, hi, rfl, rfl, hO1, hB1⟩ := hrel
    by_cases hlt : i < L.length
    · obtain ⟨x, hx⟩ : ∃ x, L[i]? = some x := ⟨_, List.getElem?_eq_getElem hlt⟩
      obtain ⟨bb, e, hcell⟩ := (HO.out.later hB1.out).at_ (by omega)
      have y1 := hcell (i * 5 + 1) (.int .u64 (x.1.2.1 : Int)) (by rw [toks_get hx 1 (by omega)]; rfl)
      have y2 := hcell (i * 5 + 2) (.int .u64 (x.1.2.2 : Int)) (by rw [toks_get hx 2 (by omega)]; rfl)
      obtain ⟨hx1, hx2⟩ := HWD.out i x hx
      have e1 : hiI (tokW L i) = (x.1.2.1 : Int) := by unfold hiI; rw [tokW_at hx, word_hi hx2]
      have e2 : loI (tokW L i) = (x.1.2.2 : Int) := by unfold loI; rw [tokW_at hx, word_lo hx2]
      rw [← e1] at y1
      rw [← e2] at y2
      have hsz1 := hB1.out.size
      have hlit : Cr (wr.alloc (Obj.cells #[.int .u64 (hiI (tokW L i)), .int .u64 (loI (tokW L i))] 30)) 2 (some ⟨wr.heap.size, 0, none⟩) 1 1 (wcs (tokW L i)) := Cr.lit wr 30 (wcs (tokW L i)) (by intro u hu; simp only [wcs, List.mem_cons, List.not_mem_nil, or_false] at hu; rcases hu with rfl | rfl <;> rfl)
      have hbl := below1 wr (Obj.cells #[.int .u64 (hiI (tokW L i)), .int .u64 (loI (tokW L i))] 30)
      obtain ⟨a5, c5, w5, hrun, hO5, hG5⟩ := append_k 22 30 _ 2 16 Tryz.underlying22 info30 rfl (by omega) (by omega) (hO1.out.later hbl) hlit (by have := hbl.size; omega) (by omega)
      have hsu := wvs_succ (tokW L) i
      rw [← hsu] at hO5
      have HO5 := hid hO5
      have HB5 : Hid (Below w1.heap.size w1 w5) := But.below hB1.out (hG5.pre hbl).but (fun k hk => (hO1.out.blk k hk).1)
      have HRUN := hid hrun
      have eo : (bb, i * 5 + 1 + 1) = (bb, i * 5 + 2) := rfl
      subst e
      clear hrun hO5 hG5 hlit hbl hsu hO1 hB1 hcell e1 e2 hx hx1 hx2
      generalize hiI (tokW L i) = r0 at *
      generalize loI (tokW L i) = r1 at *
      go_wp2_with (first | (at_builtin; refine wpList_append_known rfl _ _ 22 rfl _ _ rfl rfl _ w5 HRUN.out ?_))
      exact ⟨⟨i + 1, a5, c5, by omega, by go_num, rfl, HO5, HB5⟩, by simp [intOf]; omega⟩
    · obtain rfl : i = L.length := by omega
      go_wp2
      go_ret
      exact ⟨a1, c1, rfl, hO1.out.mono HB1.out.size, below_call HB1.out hB1.out⟩
end Go.Proofs.YtgihdchgdejkhaaGreatDoor.D
namespace Go.Proofs.YtgihdchgdejkhaaGreatDoor.D
open Go.RowKit
open Go.Proofs.YtgihdchgdejkhaaGreatDoor.H (B64)
set_option linter.unusedVariables false

set_option maxRecDepth 100000 in
set_option maxHeartbeats 1000000 in
/-- The document's Of. -/
theorem riof_any {w : World} {g gb n : Nat} {f : Nat → Nat} {W : Int} {t : Nat} (h : Dw w g gb n f W t) {r b mo : Nat} {X : List Tk} {l : Fo} {wh : Int → Int} {ev : Nat} (hr : Rf w r b mo X l wh ev) (hv : Inv mo X l) (ht : Tim l wh ev) (o : Int) :
    Calls Tryz.prog 72 #[.pointer (some ⟨g, 0, none⟩), .pointer (some ⟨r, 0, none⟩), .int .i64 o] w (RDrawn w g gb n f W t (ofP X l o)) := by
  obtain ⟨w1, hw1⟩ : ∃ w1, w1 = w.alloc (Obj.cells #[.int .u64 0, .int .u64 0] 30) := ⟨_, rfl⟩
  have hB1 : Below w.heap.size w w1 := by rw [hw1]; exact below1 _ _
  have l0 : Lies w1 ⟨w.heap.size, 0, none⟩ (.int .u64 0) := by rw [hw1]; exact ⟨by simp [go_sem], by simp [go_sem]⟩
  have l1 : Lies w1 ⟨w.heap.size, 1, none⟩ (.int .u64 0) := by rw [hw1]; exact ⟨by simp [go_sem], by simp [go_sem]⟩
  have hg := h.lt
  have HG := hid h.lt2
  have hlt1 : w.heap.size < w1.heap.size := World.block_lt_of_cell? _ _ l0.1
  have hc := hid (words_any (hr.later hB1) hv ht o)
  have hln := ofL_len hv o
  have hbig := hr.big
  have HSM : Hid (∀ i, tokW (ofL mo X l o) i < B64 * B64) := tokW_small hv o
  have HP : Hid (hasW (tokW (ofL mo X l o)) (ofL mo X l o).length = ofP X l o) := funext (words_has hv o)
  have HD1 := hid (h.later hB1)
  have HB1 : Hid (But (· = g) w w1) := But.of hB1
  have HL := hid (And.intro l0 l1)
  generalize ofL mo X l o = L at *
  clear h hr hv ht hB1 l0 l1
  go_enter Tryz.func72, Tryz.ntmps72
  go_upto_region 1 with fail
  rw [← hw1]
  clear hw1
  obtain ⟨R, hR⟩ : ∃ R, R = drawR (ofP X l o) (cutF f W) n 9 t := ⟨_, rfl⟩
  have HR := hid hR
  clear hR
  go_upto_region 2 with (first | (go_at_call 104; refine hd.out.mono ?_; rintro e w3 ⟨rfl, hD3, hB3⟩; have HD3 := hid hD3; have HB3 := hid ((HB1.out.call HB2.out).trans hB3); have HL2 : Hid (Lies w3 ⟨w.heap.size, 0, none⟩ (.int .u64 0) ∧ Lies w3 ⟨w.heap.size, 1, none⟩ (.int .u64 0)) := ⟨(HL.out.1.later HB2.out).but hB3 (by show ¬ (w.heap.size = g); omega), (HL.out.2.later HB2.out).but hB3 (by show ¬ (w.heap.size = g); omega)⟩; clear hD3 hB3; have x0 := HL2.out.1.1; have x1 := HL2.out.2.1; have f0 := HL2.out.1.2; have f1 := HL2.out.2.2) | (go_at_call 105; refine hc.out.mono ?_; rintro e w2 ⟨a, c, rfl, hO, hB⟩; have HO := hid hO; have HB2 := hid hB; clear hO hB; have hd := hid (rdraw_any (HD1.out.later HB2.out) (ow_ws HO.out HSM.out) (by omega) (fun h0 x hx => by have := (HO.out.blk x.block ⟨x, hx, rfl⟩).1; omega)); unfold RDrawn at hd; rw [HP.out, ← HR.out] at hd))
  have HQ := hid (two_set x0 x1 (.int .u64 (hiI R.1)) (.int .u64 (loI R.1)))
  refine bodyPost_ret (v := .tuple #[.agg #[.int .u64 (hiI R.1), .int .u64 (loI R.1)], .int .i64 R.2.1]) (by simp [results, Tryz.results72, go_sem, HQ.out.1, HQ.out.2]) rfl ?_
  show RDrawn _ _ _ _ _ _ _ _ _ _
  unfold RDrawn
  rw [← HR.out]
  refine ⟨rfl, ?_, ?_⟩
  · exact (HD3.out.fresh (b := w.heap.size) (by omega) (fun h0 => by have := HG.out h0; omega) 0 _).fresh (b := w.heap.size) (by omega) (fun h0 => by have := HG.out h0; omega) 1 _
  · exact (HB3.out.put (p := ⟨w.heap.size, 0, none⟩) (Nat.le_refl _) _).put (p := ⟨w.heap.size, 1, none⟩) (Nat.le_refl _) _
end Go.Proofs.YtgihdchgdejkhaaGreatDoor.D
