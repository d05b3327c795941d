import Derived.Test.YtciidjhadijhdaaIA
import Derived.Test.YtciidjhadijhdaaI6
namespace Go.Proofs.Ytciidjhadijhdaa.D
open Go.RowKit
open Go.Proofs.Ytciidjhadijhdaa.H (B64)
set_option linter.unusedVariables false

/-- Has a token of the object the word? -/
def ofP (X : List Tk) (l : Fo) (o : Int) (N : Nat) : Bool := hasC X l (o, N / B64, N % B64)
theorem words_has {m : Nat} {X : List Tk} {l : Fo} (h : Inv m X l) (o : Int) (N : Nat) : hasW (tokW (ofL m X l o)) (ofL m X l o).length N = ofP X l o N := by
  have key : hasW (tokW (ofL m X l o)) (ofL m X l o).length N = true ↔ ofP X l o N = true := by
    rw [hasW_iff]
    constructor
    · rintro ⟨i, hi, e⟩
      obtain ⟨x, hx⟩ : ∃ x, (ofL m X l o)[i]? = some x := ⟨_, List.getElem?_eq_getElem hi⟩
      rw [tokW_at hx] at e
      obtain ⟨h1, h2⟩ := ofL_wide h o hx
      obtain ⟨h3, h4⟩ := (ofL_iff h o x.1).1 ⟨i, x, hx, rfl⟩
      show hasC X l (o, N / B64, N % B64) = true
      rw [← e, word_hi h2, word_lo h2, ← h3]
      exact h4
    · intro hc
      obtain ⟨j, x, hx, e⟩ := (ofL_iff h o (o, N / B64, N % B64)).2 ⟨rfl, hc⟩
      refine ⟨j, (List.getElem?_eq_some_iff.1 hx).1, ?_⟩
      rw [tokW_at hx, e]
      show N / B64 * B64 + N % B64 = N
      have := Nat.div_add_mod N B64
      rw [Nat.mul_comm] at this
      exact this
  cases h1 : hasW (tokW (ofL m X l o)) (ofL m X l o).length N with
  | true => exact (key.1 h1).symm
  | false =>
    cases h2 : ofP X l o N with
    | false => rfl
    | true => rw [key.2 h2] at h1; cases h1
theorem half_lt {N : Nat} (h : N < B64 * B64) : N / B64 < B64 ∧ N % B64 < B64 := ⟨Nat.div_lt_of_lt_mul h, Nat.mod_lt _ (by decide)⟩
set_option maxRecDepth 100000 in
set_option maxHeartbeats 1000000 in
/-- Of's closure. -/
theorem isOf_any {w : World} {k1 k2 : Nat} {A : Ad} {kn mo : Nat} {X : List Tk} {l : Fo} {o : Int} (h1 : w.cell? ⟨k1, 0, none⟩ = some (.pointer (some ⟨A.g, 0, none⟩))) (h2 : w.cell? ⟨k2, 0, none⟩ = some (.int .i64 o)) (h : Cat w A kn mo X l) {N : Nat} (hN : N < B64 * B64) :
    Calls Try.prog 50 #[.agg #[.int .u64 (hiI N), .int .u64 (loI N)], .pointer (some ⟨k1, 0, none⟩), .pointer (some ⟨k2, 0, none⟩)] w fun e w' => e = .returned (.bool (ofP X l o N)) ∧ Below w.heap.size w w' := by
  have hb := below1 w (Obj.cells #[.int .u64 (hiI N), .int .u64 (loI N)] 31)
  have hc : Hid (Calls Try.prog 51 #[.pointer (some ⟨A.g, 0, none⟩), .agg #[.int .i64 o, .int .u64 (hiI N), .int .u64 (loI N)]] (w.alloc (Obj.cells #[.int .u64 (hiI N), .int .u64 (loI N)] 31)) fun e w' => e = .returned (.tuple #[.int .i64 (findN X l (o, N / B64, N % B64)), .bool (ofP X l o N)]) ∧ Below (w.alloc (Obj.cells #[.int .u64 (hiI N), .int .u64 (loI N)] 31)).heap.size (w.alloc (Obj.cells #[.int .u64 (hiI N), .int .u64 (loI N)] 31)) w') := cfind_any (h.later hb) (o, N / B64, N % B64) (half_lt hN)
  have y1 := cell_later hb h1
  have y2 := cell_later hb h2
  generalize findN X l (o, N / B64, N % B64) = q at *
  generalize ofP X l o N = P at *
  clear h h1 h2 hb
  go_enter Try.func50, Try.ntmps50
  go_wp2_with (first | (go_at_call 51; refine hc.out.mono ?_; rintro e w1 ⟨rfl, hB⟩; have HB := hid hB; clear hB))
  go_ret
  exact ⟨rfl, below_call (below1 _ _) HB.out⟩
set_option maxRecDepth 100000 in
set_option maxHeartbeats 1000000 in
/-- issue.Of. -/
theorem iof_any {w : World} {g gb n : Nat} {c : Nat → Nat} {t : Nat} (h : Dr w g gb n c t) (hcs : ∀ i, i < n → c i < B64 * B64) {A : Ad} {kn mo : Nat} {X : List Tk} {l : Fo} (hc : Cat w A kn mo X l) (hn : ∀ k, A.All k → k ≠ g) (o : Int) :
    Calls Try.prog 25 #[.pointer (some ⟨g, 0, none⟩), .pointer (some ⟨A.g, 0, none⟩), .int .i64 o] w (Drawn w g gb n c t (ofP X l o)) := by
  obtain ⟨w1, hw1⟩ : ∃ w1, w1 = ((w.alloc (Obj.cells #[.pointer (some ⟨A.g, 0, none⟩)] 50)).alloc (Obj.cells #[.int .i64 o] 3)).alloc (Obj.cells #[.int .u64 0, .int .u64 0] 31) := ⟨_, rfl⟩
  have hB1 : Below w.heap.size w w1 := by rw [hw1]; exact (below2 _ _ _).alloc (by simp; omega) _
  have x0 : w1.cell? ⟨w.heap.size, 0, none⟩ = some (.pointer (some ⟨A.g, 0, none⟩)) := by rw [hw1]; simp [go_sem]
  have x1 : w1.cell? ⟨w.heap.size + 1, 0, none⟩ = some (.int .i64 o) := by rw [hw1]; simp [go_sem]
  have l0 : Lies w1 ⟨w.heap.size + 1 + 1, 0, none⟩ (.int .u64 0) := by rw [hw1]; exact ⟨by simp [go_sem], by simp [go_sem]⟩
  have l1 : Lies w1 ⟨w.heap.size + 1 + 1, 1, none⟩ (.int .u64 0) := by rw [hw1]; exact ⟨by simp [go_sem], by simp [go_sem]⟩
  have hg := h.lt
  have HG := hid h.lt2
  have hcc := hid (fresh50 (h.later hB1) hcs (ofP X l o) w.heap.size (w.heap.size + 1) (fun W hW N hN => isOf_any (cell_but hW x0 (by show ¬ (w.heap.size = g); omega)) (cell_but hW x1 (by show ¬ (w.heap.size + 1 = g); omega)) ((hc.later hB1).but hW (fun k hk => hn k hk)) hN))
  have HB1 : Hid (But (· = g) w w1) := But.of hB1
  have HL := hid (And.intro l0 l1)
  clear h hc hB1 x0 x1 l0 l1 hn
  go_enter Try.func25, Try.ntmps25
  go_upto_region 1 with fail
  rw [← hw1]
  clear hw1
  obtain ⟨R, hR⟩ : ∃ R, R = drawR (ofP X l o) c n 9 t := ⟨_, rfl⟩
  unfold Drawn at hcc
  rw [← hR] at hcc
  have HR := hid hR
  clear hR
  go_upto_region 2 with (first | (go_at_call 32; refine hcc.out.mono ?_; rintro e w2 ⟨rfl, hD, hB⟩; have HD := hid hD; have HB := hid (HB1.out.trans hB); have HL2 : Hid (Lies w2 ⟨w.heap.size + 1 + 1, 0, none⟩ (.int .u64 0) ∧ Lies w2 ⟨w.heap.size + 1 + 1, 1, none⟩ (.int .u64 0)) := ⟨HL.out.1.but hB (by show ¬ (w.heap.size + 1 + 1 = g); omega), HL.out.2.but hB (by show ¬ (w.heap.size + 1 + 1 = g); omega)⟩; clear hD hB; have x0 := HL2.out.1.1; have x1 := HL2.out.2.1; have f0 := HL2.out.1.2; have f1 := HL2.out.2.2))
  have HQ := hid (two_set x0 x1 (.int .u64 (hiI R.1)) (.int .u64 (loI R.1)))
  refine bodyPost_ret (v := .tuple #[.agg #[.int .u64 (hiI R.1), .int .u64 (loI R.1)], .int .i64 R.2.1]) (by simp [results, Try.results25, go_sem, HQ.out.1, HQ.out.2]) rfl ?_
  show Drawn _ _ _ _ _ _ _ _ _
  unfold Drawn
  rw [← HR.out]
  refine ⟨rfl, ?_, ?_⟩
  · exact (HD.out.freshN (b := w.heap.size + 1 + 1) (by omega) (fun h0 => by have := HG.out h0; omega) 0 _).freshN (b := w.heap.size + 1 + 1) (by omega) (fun h0 => by have := HG.out h0; omega) 1 _
  · exact (HB.out.put (p := ⟨w.heap.size + 1 + 1, 0, none⟩) (by show _ ≤ w.heap.size + 1 + 1; omega) _).put (p := ⟨w.heap.size + 1 + 1, 1, none⟩) (by show _ ≤ w.heap.size + 1 + 1; omega) _
end Go.Proofs.Ytciidjhadijhdaa.D
