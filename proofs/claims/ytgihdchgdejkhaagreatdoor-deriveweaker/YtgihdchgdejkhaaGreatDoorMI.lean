import Derived.Test.YtgihdchgdejkhaaGreatDoorMN
import Derived.BigQuiet
namespace Go.Proofs.YtgihdchgdejkhaaGreatDoor.D
open Go.RowKit
open Go.Proofs.YtgihdchgdejkhaaGreatDoor.H (B64)
set_option linter.unusedVariables false

/-- Is N one of the first m? -/
def hasW (f : Nat → Nat) : Nat → Nat → Bool
  | 0, _ => false
  | m + 1, N => hasW f m N || decide (f m = N)
theorem hasW_iff {f : Nat → Nat} {m N : Nat} : hasW f m N = true ↔ ∃ i, i < m ∧ f i = N := by
  induction m with
  | zero => simp [hasW]
  | succ m ih =>
    rw [hasW, Bool.or_eq_true, ih, decide_eq_true_eq]
    constructor
    · rintro (⟨i, hi, e⟩ | e)
      · exact ⟨i, by omega, e⟩
      · exact ⟨m, by omega, e⟩
    · rintro ⟨i, hi, e⟩
      by_cases h : i = m
      · exact .inr (h ▸ e)
      · exact .inl ⟨i, by omega, e⟩
/-- Drawing till a word is new, k times at most: the word, the code, how many are taken then. -/
def drawR (P : Nat → Bool) (c : Nat → Nat) (n : Nat) : Nat → Nat → Nat × Int × Nat
  | 0, t => (0, 12, t)
  | k + 1, t => if t < n then (if P (c t) = true then drawR P c n k (t + 1) else (c t, 0, t + 1)) else (0, 11, t)
theorem drawR_end {P : Nat → Bool} {c : Nat → Nat} {n k t : Nat} (h : ¬ t < n) : drawR P c n (k + 1) t = (0, 11, t) := by rw [drawR, if_neg h]
theorem drawR_new {P : Nat → Bool} {c : Nat → Nat} {n k t : Nat} (h : t < n) (hp : P (c t) = false) : drawR P c n (k + 1) t = (c t, 0, t + 1) := by rw [drawR, if_pos h, if_neg (by rw [hp]; decide)]
theorem drawR_old {P : Nat → Bool} {c : Nat → Nat} {n k t : Nat} (h : t < n) (hp : P (c t) = true) : drawR P c n (k + 1) t = drawR P c n k (t + 1) := by rw [drawR, if_pos h, if_pos hp]
theorem drawR_le {P : Nat → Bool} {c : Nat → Nat} {n : Nat} : ∀ {k t : Nat}, t ≤ n → (drawR P c n k t).2.2 ≤ n
  | 0, t, h => h
  | k + 1, t, h => by
    rw [drawR]
    split
    · split
      · exact drawR_le (by omega)
      · simpa using by omega
    · exact h
theorem drawR_small {P : Nat → Bool} {c : Nat → Nat} {n : Nat} (hc : ∀ i, i < n → c i < B64 * B64) : ∀ {k t : Nat}, (drawR P c n k t).1 < B64 * B64
  | 0, t => by
    rw [drawR]
    show 0 < B64 * B64
    decide
  | k + 1, t => by
    rw [drawR]
    split
    · split
      · exact drawR_small hc
      · exact hc _ (by assumption)
    · show 0 < B64 * B64
      decide
theorem drawR_congr {P Q : Nat → Bool} {c : Nat → Nat} {n : Nat} (h : ∀ i, i < n → P (c i) = Q (c i)) : ∀ {k t : Nat}, drawR P c n k t = drawR Q c n k t
  | 0, t => rfl
  | k + 1, t => by
    rw [drawR, drawR]
    by_cases ht : t < n
    · rw [if_pos ht, if_pos ht, h t ht, drawR_congr h]
    · rw [if_neg ht, if_neg ht]

end Go.Proofs.YtgihdchgdejkhaaGreatDoor.D
namespace Go.Proofs.YtgihdchgdejkhaaGreatDoor.D
open Go.RowKit
open Go.Proofs.YtgihdchgdejkhaaGreatDoor.H (B64)
set_option linter.unusedVariables false

theorem Dr.butN {S : Nat → Prop} {w w' : World} {g gb n : Nat} {c : Nat → Nat} {t : Nat} (hb : But S w w') (h : Dr w g gb n c t) (h1 : ¬ S g) (h2 : 0 < n → ¬ S gb) : Dr w' g gb n c t :=
  ⟨cell_but hb h.all h1, h.tk.but hb h1, fun i hi => (h.ar i hi).but hb (h2 (by omega)), h.ne, h.le, h.big⟩
theorem Dr.freshN {w : World} {g gb n : Nat} {c : Nat → Nat} {t : Nat} (h : Dr w g gb n c t) {b : Nat} (h1 : g ≠ b) (h2 : 0 < n → gb ≠ b) (o : Nat) (u : Value) : Dr (w.setCell ⟨b, o, none⟩ u) g gb n c t :=
  h.butN (S := (· = b)) ((But.refl (· = b) _).own _ _) h1 h2
theorem Dr.lt2 {w : World} {g gb n : Nat} {c : Nat → Nat} {t : Nat} (h : Dr w g gb n c t) (h0 : 0 < n) : gb < w.heap.size := World.block_lt_of_cell? _ _ (h.ar 0 h0).1
theorem Ws.butN {S : Nat → Prop} {w w' : World} {a : Option Addr} {n cap : Nat} {f : Nat → Nat} (h : Ws w a n cap f) (hb : But S w w') (hn : 0 < n → ∀ x, a = some x → ¬ S x.block) : Ws w' a n cap f :=
  ⟨h.cap_, h.none_, fun x hx j u hu => cell_but hb (h.cells x hx j u hu) (by
    rw [add_block]
    refine hn ?_ x hx
    have := (List.getElem?_eq_some_iff.1 hu).1
    rw [wvs_length] at this
    omega), h.small⟩
theorem two_set {w : World} {b : Nat} {v0 v1 : Value} (h0 : w.cell? ⟨b, 0, none⟩ = some v0) (h1 : w.cell? ⟨b, 1, none⟩ = some v1) (x y : Value) : (w.setCell ⟨b, 0, none⟩ x).cell? ⟨b, 0, none⟩ = some x ∧ ((w.setCell ⟨b, 0, none⟩ x).setCell ⟨b, 1, none⟩ y).cell? ⟨b, 1, none⟩ = some y :=
  ⟨World.cell?_setCell_same _ _ _ h0, World.cell?_setCell_same _ _ _ (cell_set_ne h1 (by omega))⟩
/-- What a call of Draw leaves. -/
def Drawn (w : World) (g gb n : Nat) (c : Nat → Nat) (t : Nat) (P : Nat → Bool) (e : Ending) (w' : World) : Prop :=
  e = .returned (.tuple #[.agg #[.int .u64 (hiI (drawR P c n 9 t).1), .int .u64 (loI (drawR P c n 9 t).1)], .int .i64 (drawR P c n 9 t).2.1]) ∧ Dr w' g gb n c (drawR P c n 9 t).2.2 ∧ But (· = g) w w'
def FrRel (w w1 : World) (g gb n : Nat) (c : Nat → Nat) (t : Nat) (P : Nat → Bool) (v : Value) (w' : World) : Prop :=
  ∃ i : Nat, i ≤ 9 ∧ v = .int .i64 (i : Int) ∧ Hid (drawR P c n 9 t = drawR P c n (9 - i) (t + i)) ∧ Hid (Dr w' g gb n c (t + i)) ∧ Hid (But (· = g) w w') ∧ (Lies w' ⟨w.heap.size, 0, none⟩ (.int .u64 0) ∧ Lies w' ⟨w.heap.size, 1, none⟩ (.int .u64 0)) ∧ w1.heap.size ≤ w'.heap.size
set_option maxRecDepth 100000 in
set_option maxHeartbeats 2000000 in
/-- fresh, with the closure 41. -/
theorem fresh50 {w : World} {g gb n : Nat} {c : Nat → Nat} {t : Nat} (h : Dr w g gb n c t) (hcs : ∀ i, i < n → c i < B64 * B64) (P : Nat → Bool) (k1 k2 : Nat)
    (hcl : ∀ W, But (· = g) w W → ∀ N, N < B64 * B64 → Calls Tryz.prog 93 #[.agg #[.int .u64 (hiI N), .int .u64 (loI N)], .pointer (some ⟨k1, 0, none⟩), .pointer (some ⟨k2, 0, none⟩)] W fun e w' => e = .returned (.bool (P N)) ∧ Below W.heap.size W w') :
    Calls Tryz.prog 92 #[.pointer (some ⟨g, 0, none⟩), .func (.func 93) #[] #[.pointer (some ⟨k1, 0, none⟩), .pointer (some ⟨k2, 0, none⟩)]] w (Drawn w g gb n c t P) := by
  obtain ⟨w1, hw1⟩ : ∃ w1, w1 = w.alloc (Obj.cells #[.int .u64 0, .int .u64 0] 30) := ⟨_, rfl⟩
  have hB1 : Below w.heap.size w w1 := by rw [hw1]; exact below1 _ _
  have l0 : Lies w1 ⟨w.heap.size, 0, none⟩ (.int .u64 0) := by rw [hw1]; exact ⟨by simp [go_sem], by simp [go_sem]⟩
  have l1 : Lies w1 ⟨w.heap.size, 1, none⟩ (.int .u64 0) := by rw [hw1]; exact ⟨by simp [go_sem], by simp [go_sem]⟩
  have hg := h.lt
  have HG := hid h.lt2
  have hlt1 : w.heap.size < w1.heap.size := World.block_lt_of_cell? _ _ l0.1
  have h1 := hid (h.later hB1)
  have HB1 : Hid (But (· = g) w w1) := But.of hB1
  have HL := hid (And.intro l0 l1)
  have HC := hid hcl
  have HS := hid hcs
  clear h hB1 l0 l1 hcl hcs
  go_enter Tryz.func92, Tryz.ntmps92
  go_upto_region 1 with fail
  rw [← hw1]
  clear hw1
  go_upto_region 2 with fail
  go_loopw [8] (FrRel w w1 g gb n c t P) (fun v _ => 9 - (intOf v).toNat)
  case atStart => exact ⟨0, Nat.zero_le _, rfl, rfl, h1, HB1, HL.out, Nat.le_refl _⟩
  case round =>
    obtain ⟨i, hi, rfl, hE, hD, hB, ⟨l0, l1⟩, hsz⟩ := hrel
    by_cases h9 : i < 9
    · by_cases ht : t + i < n
      · have hdr := hid (draw_more g gb n c (t + i) wr hD.out ht)
        have hN := HS.out (t + i) ht
        have hek : 9 - i = (9 - (i + 1)) + 1 := by omega
        generalize hNN : c (t + i) = N at *
        obtain ⟨HL', -⟩ := And.intro (hid (And.intro l0 l1)) trivial
        clear l0 l1
        go_upto_region 4 with (first | (go_at_call 53; refine hdr.out.mono ?_; rintro e w2 ⟨rfl, hD2, hB2⟩; have HD2 := hid hD2; have HB2 := hid (hB.out.trans hB2); have HL2 : Hid (Lies w2 ⟨w.heap.size, 0, none⟩ (.int .u64 0) ∧ Lies w2 ⟨w.heap.size, 1, none⟩ (.int .u64 0)) := ⟨HL'.out.1.but hB2 (by show ¬ (w.heap.size = g); omega), HL'.out.2.but hB2 (by show ¬ (w.heap.size = g); omega)⟩; have hsz2 := hB2.size; clear hD2 hB2))
        obtain ⟨w3, hw3⟩ : ∃ w3, w3 = w2.alloc (Obj.cells #[.int .u64 (hiI N), .int .u64 (loI N)] 30) := ⟨_, rfl⟩
        rw [← hw3]
        have hB3 : Below w2.heap.size w2 w3 := by rw [hw3]; exact below1 _ _
        have z0 : w3.cell? ⟨w2.heap.size, 0, none⟩ = some (.int .u64 (hiI N)) := by rw [hw3]; simp [go_sem]
        have z1 : w3.cell? ⟨w2.heap.size, 1, none⟩ = some (.int .u64 (loI N)) := by rw [hw3]; simp [go_sem]
        have hcl := hid (HC.out w3 (HB2.out.call hB3) N hN)
        have HD3 := hid (HD2.out.later hB3)
        have HB3 := hid (HB2.out.call hB3)
        have HL3 : Hid (Lies w3 ⟨w.heap.size, 0, none⟩ (.int .u64 0) ∧ Lies w3 ⟨w.heap.size, 1, none⟩ (.int .u64 0)) := ⟨HL2.out.1.later hB3, HL2.out.2.later hB3⟩
        have HZ : Hid (w3.cell? ⟨w2.heap.size, 0, none⟩ = some (.int .u64 (hiI N)) ∧ w3.cell? ⟨w2.heap.size, 1, none⟩ = some (.int .u64 (loI N))) := ⟨z0, z1⟩
        have hsz3 := hB3.size
        clear hw3 hdr hD hB HL' HD2 HB2 HL2 hB3
        cases hp : P N with
        | true =>
          rw [hp] at hcl
          go_wp2_with (first | (go_at_call 93; refine hcl.out.mono ?_; rintro e w4 ⟨rfl, hB4⟩; have HB4 := hid hB4; clear hB4))
          refine ⟨⟨i + 1, by omega, by go_num, ?_, ?_, HB3.out.call HB4.out, ⟨HL3.out.1.later HB4.out, HL3.out.2.later HB4.out⟩, ?_⟩, by simp [intOf]; omega⟩
          · show _ = _
            rw [hE.out, hek, drawR_old ht (by rw [hNN]; exact hp)]; rfl
          · exact HD3.out.later HB4.out
          · have := HB4.out.size; omega
        | false =>
          rw [hp] at hcl
          have hR : drawR P c n 9 t = (N, 0, t + i + 1) := by rw [hE.out, hek, drawR_new ht (by rw [hNN]; exact hp), hNN]
          have HR := hid hR
          clear hE hp hek hR
          go_upto_region 7 with (first | (go_at_call 93; refine hcl.out.mono ?_; rintro e w4 ⟨rfl, hB4⟩; have HB4 := hid hB4; clear hB4))
          have y0 := cell_later HB4.out HZ.out.1
          have y1 := cell_later HB4.out HZ.out.2
          have l0 := (HL3.out.1.later HB4.out).1
          have l1 := (HL3.out.2.later HB4.out).1
          have f0 := (HL3.out.1.later HB4.out).2
          have f1 := (HL3.out.2.later HB4.out).2
          have hB5 : But (· = g) w ((w4.setCell ⟨w.heap.size, 0, none⟩ (.int .u64 (hiI N))).setCell ⟨w.heap.size, 1, none⟩ (.int .u64 (loI N))) := ((HB3.out.call HB4.out).put (p := ⟨w.heap.size, 0, none⟩) (Nat.le_refl _) _).put (p := ⟨w.heap.size, 1, none⟩) (Nat.le_refl _) _
          have HB5 := hid hB5
          have HD5 := hid (((HD3.out.later HB4.out).freshN (b := w.heap.size) (by omega) (fun h0 => by have := HG.out h0; omega) 0 (.int .u64 (hiI N))).freshN (b := w.heap.size) (by omega) (fun h0 => by have := HG.out h0; omega) 1 (.int .u64 (loI N)))
          have HQ := hid (two_set l0 l1 (.int .u64 (hiI N)) (.int .u64 (loI N)))
          clear hB5
          go_wp2
          refine bodyPost_ret (v := .tuple #[.agg #[.int .u64 (hiI N), .int .u64 (loI N)], .int .i64 0]) (by simp [results, Tryz.results92, go_sem, HQ.out.1, HQ.out.2]) rfl ?_
          show Drawn _ _ _ _ _ _ _ _ _
          unfold Drawn
          rw [HR.out]
          exact ⟨rfl, HD5.out, HB5.out⟩
      · have hle := hD.out.le
        have hdr : Hid (Calls Tryz.prog 53 #[.pointer (some ⟨g, 0, none⟩)] wr fun e w' => e = .returned (.tuple #[.agg #[.int .u64 0, .int .u64 0], .int .i64 11]) ∧ Below wr.heap.size wr w') := by
          have e1 : t + i = n := by omega
          have hq := hD.out
          rw [e1] at hq
          exact draw_end g gb n c wr hq
        have hek : 9 - i = (9 - (i + 1)) + 1 := by omega
        have HR : Hid (drawR P c n 9 t = (0, 11, t + i)) := by
          show _ = _
          rw [hE.out, hek, drawR_end ht]
        obtain ⟨HL', -⟩ := And.intro (hid (And.intro l0 l1)) trivial
        clear l0 l1 hE hek hle
        go_upto_region 5 with (first | (go_at_call 53; refine hdr.out.mono ?_; rintro e w2 ⟨rfl, hB2⟩; have HB2 := hid hB2; clear hB2))
        have hB3 : Below wr.heap.size wr (w2.alloc (Obj.cells #[.int .u64 0, .int .u64 0] 30)) := HB2.out.alloc HB2.out.size _
        have x0 := (HL'.out.1.later hB3).1
        have x1 := (HL'.out.2.later hB3).1
        have f0 := (HL'.out.1.later hB3).2
        have f1 := (HL'.out.2.later hB3).2
        have HB3 := hid hB3
        have HB5 : Hid (But (· = g) w (((w2.alloc (Obj.cells #[.int .u64 0, .int .u64 0] 30)).setCell ⟨w.heap.size, 0, none⟩ (.int .u64 0)).setCell ⟨w.heap.size, 1, none⟩ (.int .u64 0))) := ((hB.out.call hB3).put (p := ⟨w.heap.size, 0, none⟩) (Nat.le_refl _) _).put (p := ⟨w.heap.size, 1, none⟩) (Nat.le_refl _) _
        have HD5 := hid (((hD.out.later hB3).freshN (b := w.heap.size) (by omega) (fun h0 => by have := HG.out h0; omega) 0 (.int .u64 0)).freshN (b := w.heap.size) (by omega) (fun h0 => by have := HG.out h0; omega) 1 (.int .u64 0))
        have HQ := hid (two_set x0 x1 (.int .u64 0) (.int .u64 0))
        clear hB3
        go_wp2
        refine bodyPost_ret (v := .tuple #[.agg #[.int .u64 0, .int .u64 0], .int .i64 11]) (by simp [results, Tryz.results92, go_sem, HQ.out.1, HQ.out.2]) rfl ?_
        show Drawn _ _ _ _ _ _ _ _ _
        unfold Drawn
        rw [HR.out]
        exact ⟨by simp only [hiI_zero, loI_zero], HD5.out, HB5.out⟩
    · obtain rfl : i = 9 := by omega
      have HR : Hid (drawR P c n 9 t = (0, 12, t + 9)) := by
        show _ = _
        rw [hE.out]; rfl
      have x0 := l0.1
      have x1 := l1.1
      have f0 := l0.2
      have f1 := l1.2
      have HB5 : Hid (But (· = g) w ((wr.setCell ⟨w.heap.size, 0, none⟩ (.int .u64 0)).setCell ⟨w.heap.size, 1, none⟩ (.int .u64 0))) := (hB.out.put (p := ⟨w.heap.size, 0, none⟩) (Nat.le_refl _) _).put (p := ⟨w.heap.size, 1, none⟩) (Nat.le_refl _) _
      have HD5 := hid ((hD.out.freshN (b := w.heap.size) (by omega) (fun h0 => by have := HG.out h0; omega) 0 (.int .u64 0)).freshN (b := w.heap.size) (by omega) (fun h0 => by have := HG.out h0; omega) 1 (.int .u64 0))
      have HQ := hid (two_set x0 x1 (.int .u64 0) (.int .u64 0))
      clear l0 l1 hE
      go_wp2
      refine bodyPost_ret (v := .tuple #[.agg #[.int .u64 0, .int .u64 0], .int .i64 12]) (by simp [results, Tryz.results92, go_sem, HQ.out.1, HQ.out.2]) rfl ?_
      show Drawn _ _ _ _ _ _ _ _ _
      unfold Drawn
      rw [HR.out]
      exact ⟨by simp only [hiI_zero, loI_zero], HD5.out, HB5.out⟩
end Go.Proofs.YtgihdchgdejkhaaGreatDoor.D
namespace Go.Proofs.YtgihdchgdejkhaaGreatDoor.D
open Go.RowKit
open Go.Proofs.YtgihdchgdejkhaaGreatDoor.H (B64)
set_option linter.unusedVariables false

/-- The words as they are cut. -/
def cutF (f : Nat → Nat) (W : Int) (j : Nat) : Nat := cutN (f j) W
/-- What a call of the document's Draw leaves. -/
def RDrawn (w : World) (g gb n : Nat) (f : Nat → Nat) (W : Int) (t : Nat) (P : Nat → Bool) (e : Ending) (w' : World) : Prop :=
  e = .returned (.tuple #[.agg #[.int .u64 (hiI (drawR P (cutF f W) n 9 t).1), .int .u64 (loI (drawR P (cutF f W) n 9 t).1)], .int .i64 (drawR P (cutF f W) n 9 t).2.1]) ∧ Dw w' g gb n f W (drawR P (cutF f W) n 9 t).2.2 ∧ But (· = g) w w'
def RFrRel (w w1 : World) (g gb n : Nat) (f : Nat → Nat) (W : Int) (t : Nat) (P : Nat → Bool) (v : Value) (w' : World) : Prop :=
  ∃ i : Nat, i ≤ 9 ∧ v = .int .i64 (i : Int) ∧ Hid (drawR P (cutF f W) n 9 t = drawR P (cutF f W) n (9 - i) (t + i)) ∧ Hid (Dw w' g gb n f W (t + i)) ∧ Hid (But (· = g) w w') ∧ (Lies w' ⟨w.heap.size, 0, none⟩ (.int .u64 0) ∧ Lies w' ⟨w.heap.size, 1, none⟩ (.int .u64 0)) ∧ w1.heap.size ≤ w'.heap.size
def ThRel (w3 : World) (u : Nat → Nat) (N m : Nat) (v t : Value) (w' : World) : Prop :=
  ∃ i : Nat, i ≤ m ∧ t = .int .i64 (i : Int) ∧ v = .bool (hasW u i N) ∧ Below w3.heap.size w3 w'
set_option maxRecDepth 100000 in
set_option maxHeartbeats 2000000 in
/-- The document's Draw. -/
theorem rdraw_any {w : World} {g gb n : Nat} {f : Nat → Nat} {W : Int} {t : Nat} (h : Dw w g gb n f W t) {a : Option Addr} {m cap : Nat} {u : Nat → Nat} (hw : Ws w a m cap u) (hm : m ≤ 9223372036854775807) (hn : 0 < m → ∀ x, a = some x → x.block ≠ g) :
    Calls Tryz.prog 104 #[.pointer (some ⟨g, 0, none⟩), .slice a m cap] w (RDrawn w g gb n f W t (hasW u m)) := by
  obtain ⟨w1, hw1⟩ : ∃ w1, w1 = w.alloc (Obj.cells #[.int .u64 0, .int .u64 0] 30) := ⟨_, rfl⟩
  have hB1 : Below w.heap.size w w1 := by rw [hw1]; exact below1 _ _
  have l0 : Lies w1 ⟨w.heap.size, 0, none⟩ (.int .u64 0) := by rw [hw1]; exact ⟨by simp [go_sem], by simp [go_sem]⟩
  have l1 : Lies w1 ⟨w.heap.size, 1, none⟩ (.int .u64 0) := by rw [hw1]; exact ⟨by simp [go_sem], by simp [go_sem]⟩
  have hg := h.lt
  have HG := hid h.lt2
  have hlt1 : w.heap.size < w1.heap.size := World.block_lt_of_cell? _ _ l0.1
  have h1 := hid (h.later hB1)
  have HB1 : Hid (But (· = g) w w1) := But.of hB1
  have HL := hid (And.intro l0 l1)
  have HW : Hid (∀ V, But (· = g) w V → Ws V a m cap u) := fun V hV => hw.butN hV hn
  have HS := hid h.small
  have HU := hid hw.small
  clear h hB1 l0 l1 hw hn
  go_enter Tryz.func104, Tryz.ntmps104
  go_upto_region 1 with fail
  rw [← hw1]
  clear hw1
  go_upto_region 2 with fail
  go_loopw [6] (RFrRel w w1 g gb n f W t (hasW u m)) (fun v _ => 9 - (intOf v).toNat)
  case atStart => exact ⟨0, Nat.zero_le _, rfl, rfl, h1, HB1, HL.out, Nat.le_refl _⟩
  case round =>
    obtain ⟨i, hi, rfl, hE, hD, hB, ⟨l0, l1⟩, hsz⟩ := hrel
    by_cases h9 : i < 9
    · by_cases ht : t + i < n
      · have hdr := hid (rdraw_more g gb n f W (t + i) wr hD.out ht)
        have hN : cutN (f (t + i)) W < B64 * B64 := cutN_lt (HS.out (t + i)) W
        have hek : 9 - i = (9 - (i + 1)) + 1 := by omega
        have hNN : cutF f W (t + i) = cutN (f (t + i)) W := rfl
        generalize cutN (f (t + i)) W = N at *
        obtain ⟨HL', -⟩ := And.intro (hid (And.intro l0 l1)) trivial
        clear l0 l1
        go_upto_region 5 with (first | (go_at_call 67; refine hdr.out.mono ?_; rintro e w2 ⟨rfl, hD2, hB2⟩; have HD2 := hid hD2; have HB2 := hid (hB.out.trans hB2); have HL2 : Hid (Lies w2 ⟨w.heap.size, 0, none⟩ (.int .u64 0) ∧ Lies w2 ⟨w.heap.size, 1, none⟩ (.int .u64 0)) := ⟨HL'.out.1.but hB2 (by show ¬ (w.heap.size = g); omega), HL'.out.2.but hB2 (by show ¬ (w.heap.size = g); omega)⟩; have hsz2 := hB2.size; clear hD2 hB2))
        obtain ⟨w3, hw3⟩ : ∃ w3, w3 = w2.alloc (Obj.cells #[.int .u64 (hiI N), .int .u64 (loI N)] 30) := ⟨_, rfl⟩
        rw [← hw3]
        have hB3 : Below w2.heap.size w2 w3 := by rw [hw3]; exact below1 _ _
        have z0 : w3.cell? ⟨w2.heap.size, 0, none⟩ = some (.int .u64 (hiI N)) := by rw [hw3]; simp [go_sem]
        have z1 : w3.cell? ⟨w2.heap.size, 1, none⟩ = some (.int .u64 (loI N)) := by rw [hw3]; simp [go_sem]
        have HW3 := hid (HW.out w3 (HB2.out.call hB3))
        have HD3 := hid (HD2.out.later hB3)
        have HB3 := hid (HB2.out.call hB3)
        have HL3 : Hid (Lies w3 ⟨w.heap.size, 0, none⟩ (.int .u64 0) ∧ Lies w3 ⟨w.heap.size, 1, none⟩ (.int .u64 0)) := ⟨HL2.out.1.later hB3, HL2.out.2.later hB3⟩
        have HZ : Hid (∀ V, Below w3.heap.size w3 V → V.cell? ⟨w2.heap.size, 0, none⟩ = some (.int .u64 (hiI N)) ∧ V.cell? ⟨w2.heap.size, 1, none⟩ = some (.int .u64 (loI N))) := fun V hV => ⟨cell_later hV z0, cell_later hV z1⟩
        have hsz3 := hB3.size
        clear hw3 hdr hD hB HL' HD2 HB2 HL2 hB3 z0 z1
        go_upto_region 9 with fail
        go_loopw [9, 10] (ThRel w3 u N m) (fun _ t _ => m - (intOf t).toNat)
        case atStart => exact ⟨0, Nat.zero_le _, rfl, rfl, Below.refl _ _⟩
        case round =>
          obtain ⟨j, hj, rfl, rfl, hB⟩ := hrel
          by_cases hlt : j < m
          · obtain ⟨b, o, rfl, hw⟩ := (HW3.out.later hB).plain (by omega)
            obtain ⟨p0, p1⟩ := hw j hlt
            obtain ⟨z0, z1⟩ := HZ.out _ hB
            have hsu : hasW u (j + 1) N = (hasW u j N || decide (u j = N)) := rfl
            have HB := hid hB
            have heq := fun V => eqlW (hiI (u j)) (loI (u j)) (hiI N) (loI N) V
            rw [wEq_num (HU.out j) hN] at heq
            clear hB hw
            cases hth : hasW u j N with
            | true =>
              rw [hth] at hsu
              have HSU := hid hsu
              clear hsu hth heq
              go_upto_region 11 with fail
              go_quiet (fail)
              go_wp2
              exact ⟨⟨j + 1, by omega, by go_num, by rw [HSU.out]; rfl, below_drewN HB.out _⟩, by simp [intOf]; omega⟩
            | false =>
              rw [hth, Bool.false_or] at hsu
              have HSU := hid hsu
              generalize decide (u j = N) = d at *
              clear hsu hth
              go_upto_region 11 with fail
              go_quiet (fail)
              go_wp2
              exact ⟨⟨j + 1, by omega, by go_num, by rw [HSU.out], below_drewN HB.out _⟩, by simp [intOf]; omega⟩
          · obtain rfl : j = m := by omega
            have HB := hid hB
            obtain ⟨z0, z1⟩ := HZ.out _ hB
            have q0 := (HL3.out.1.later hB).1
            have q1 := (HL3.out.2.later hB).1
            have f0 := (HL3.out.1.later hB).2
            have f1 := (HL3.out.2.later hB).2
            have hBs := hB.size
            clear hB
            cases hp : hasW u j N with
            | true =>
              go_wp2
              refine ⟨⟨i + 1, by omega, by go_num, ?_, ?_, HB3.out.call HB.out, ⟨HL3.out.1.later HB.out, HL3.out.2.later HB.out⟩, ?_⟩, by simp [intOf]; omega⟩
              · show _ = _
                rw [hE.out, hek, drawR_old ht (by rw [hNN]; exact hp)]; rfl
              · exact HD3.out.later HB.out
              · omega
            | false =>
              have HR : Hid (drawR (hasW u j) (cutF f W) n 9 t = (N, 0, t + i + 1)) := by
                show _ = _
                rw [hE.out, hek, drawR_new ht (by rw [hNN]; exact hp), hNN]
              have HQ := hid (two_set q0 q1 (.int .u64 (hiI N)) (.int .u64 (loI N)))
              clear hE hp hek
              go_wp2
              refine bodyPost_ret (v := .tuple #[.agg #[.int .u64 (hiI N), .int .u64 (loI N)], .int .i64 0]) (by simp [results, Tryz.results104, go_sem, HQ.out.1, HQ.out.2]) rfl ?_
              show RDrawn _ _ _ _ _ _ _ _ _ _
              unfold RDrawn
              rw [HR.out]
              refine ⟨rfl, ?_, ?_⟩
              · exact ((HD3.out.later HB.out).fresh (b := w.heap.size) (by omega) (fun h0 => by have := HG.out h0; omega) 0 _).fresh (b := w.heap.size) (by omega) (fun h0 => by have := HG.out h0; omega) 1 _
              · exact ((HB3.out.call HB.out).put (p := ⟨w.heap.size, 0, none⟩) (Nat.le_refl _) _).put (p := ⟨w.heap.size, 1, none⟩) (Nat.le_refl _) _
      · have hle := hD.out.le
        have hdr : Hid (Calls Tryz.prog 67 #[.pointer (some ⟨g, 0, none⟩)] wr fun e w' => e = .returned (.tuple #[.agg #[.int .u64 0, .int .u64 0], .int .i64 11]) ∧ Below wr.heap.size wr w') := by
          have e1 : t + i = n := by omega
          have hq := hD.out
          rw [e1] at hq
          exact rdraw_end g gb n f W wr hq
        have hek : 9 - i = (9 - (i + 1)) + 1 := by omega
        have HR : Hid (drawR (hasW u m) (cutF f W) n 9 t = (0, 11, t + i)) := by
          show _ = _
          rw [hE.out, hek, drawR_end ht]
        obtain ⟨HL', -⟩ := And.intro (hid (And.intro l0 l1)) trivial
        clear l0 l1 hE hek hle
        go_upto_region 6 with (first | (go_at_call 67; refine hdr.out.mono ?_; rintro e w2 ⟨rfl, hB2⟩; have HB2 := hid hB2; clear hB2))
        have hB3 : Below wr.heap.size wr (w2.alloc (Obj.cells #[.int .u64 0, .int .u64 0] 30)) := HB2.out.alloc HB2.out.size _
        have x0 := (HL'.out.1.later hB3).1
        have x1 := (HL'.out.2.later hB3).1
        have f0 := (HL'.out.1.later hB3).2
        have f1 := (HL'.out.2.later hB3).2
        have HB3 := hid hB3
        have HB5 : Hid (But (· = g) w (((w2.alloc (Obj.cells #[.int .u64 0, .int .u64 0] 30)).setCell ⟨w.heap.size, 0, none⟩ (.int .u64 0)).setCell ⟨w.heap.size, 1, none⟩ (.int .u64 0))) := ((hB.out.call hB3).put (p := ⟨w.heap.size, 0, none⟩) (Nat.le_refl _) _).put (p := ⟨w.heap.size, 1, none⟩) (Nat.le_refl _) _
        have HD5 := hid (((hD.out.later hB3).fresh (b := w.heap.size) (by omega) (fun h0 => by have := HG.out h0; omega) 0 (.int .u64 0)).fresh (b := w.heap.size) (by omega) (fun h0 => by have := HG.out h0; omega) 1 (.int .u64 0))
        have HQ := hid (two_set x0 x1 (.int .u64 0) (.int .u64 0))
        clear hB3
        go_wp2
        refine bodyPost_ret (v := .tuple #[.agg #[.int .u64 0, .int .u64 0], .int .i64 11]) (by simp [results, Tryz.results104, go_sem, HQ.out.1, HQ.out.2]) rfl ?_
        show RDrawn _ _ _ _ _ _ _ _ _ _
        unfold RDrawn
        rw [HR.out]
        exact ⟨by simp only [hiI_zero, loI_zero], HD5.out, HB5.out⟩
    · obtain rfl : i = 9 := by omega
      have HR : Hid (drawR (hasW u m) (cutF f W) n 9 t = (0, 12, t + 9)) := by
        show _ = _
        rw [hE.out]; rfl
      have x0 := l0.1
      have x1 := l1.1
      have f0 := l0.2
      have f1 := l1.2
      have HB5 : Hid (But (· = g) w ((wr.setCell ⟨w.heap.size, 0, none⟩ (.int .u64 0)).setCell ⟨w.heap.size, 1, none⟩ (.int .u64 0))) := (hB.out.put (p := ⟨w.heap.size, 0, none⟩) (Nat.le_refl _) _).put (p := ⟨w.heap.size, 1, none⟩) (Nat.le_refl _) _
      have HD5 := hid ((hD.out.fresh (b := w.heap.size) (by omega) (fun h0 => by have := HG.out h0; omega) 0 (.int .u64 0)).fresh (b := w.heap.size) (by omega) (fun h0 => by have := HG.out h0; omega) 1 (.int .u64 0))
      have HQ := hid (two_set x0 x1 (.int .u64 0) (.int .u64 0))
      clear l0 l1 hE
      go_wp2
      refine bodyPost_ret (v := .tuple #[.agg #[.int .u64 0, .int .u64 0], .int .i64 12]) (by simp [results, Tryz.results104, go_sem, HQ.out.1, HQ.out.2]) rfl ?_
      show RDrawn _ _ _ _ _ _ _ _ _ _
      unfold RDrawn
      rw [HR.out]
      exact ⟨by simp only [hiI_zero, loI_zero], HD5.out, HB5.out⟩
end Go.Proofs.YtgihdchgdejkhaaGreatDoor.D
