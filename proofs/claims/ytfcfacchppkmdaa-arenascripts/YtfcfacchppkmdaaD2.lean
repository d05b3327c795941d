import Derived.Test.YtfcfacchppkmdaaD1
namespace Go.Proofs.Ytfcfacchppkmdaa
open Go.RowKit
set_option linter.unusedVariables false

/-- Bytes in a block of their own. -/
def Cel (w : World) (b m : Nat) (f : Nat → Nat) : Prop := ∀ j, j < m → Lies w ⟨b, j, none⟩ (.int .u8 ((f j : Nat) : Int))
theorem Cel.but {S : Nat → Prop} {w w' : World} {b m : Nat} {f : Nat → Nat} (hb : But S w w') (h : Cel w b m f) (hn : ¬ S b) : Cel w' b m f := fun j hj => (h j hj).but hb hn
theorem Cel.later {w w' : World} {b m : Nat} {f : Nat → Nat} (hb : Below w.heap.size w w') (h : Cel w b m f) : Cel w' b m f := fun j hj => (h j hj).later hb
theorem Cel.set {w : World} {b m k x : Nat} {f f' : Nat → Nat} (h : Cel w b m f) (hk : k < m) (hf : ∀ j, j < m → f' j = if j = k then x else f j) : Cel (w.setCell ⟨b, k, none⟩ (.int .u8 ((x : Nat) : Int))) b m f' := fun j hj => by
  rw [hf j hj]
  by_cases e : j = k
  · subst e
    rw [if_pos rfl]
    exact (h j hj).put
  · rw [if_neg e]
    exact (h j hj).other (fun e2 => e (congrArg Addr.off e2).symm)
/-- As a list. -/
def fl (f : Nat → Nat) (m : Nat) : List Nat := (List.range m).map f
theorem fl_length (f : Nat → Nat) (m : Nat) : (fl f m).length = m := by simp [fl]
theorem fl_get (f : Nat → Nat) (m j : Nat) (h : j < m) : (u8s (fl f m))[j]? = some (.int .u8 ((f j : Nat) : Int)) := by simp [u8s, fl, h]
theorem fl_congr {f f' : Nat → Nat} {m : Nat} (h : ∀ j, j < m → f j = f' j) : fl f m = fl f' m := List.map_congr_left fun j hj => h j (by simpa using hj)
theorem Cel.row {w : World} {b m : Nat} {f : Nat → Nat} (h : Cel w b m f) {n cap : Nat} (hn : n ≤ m) (hc : n ≤ cap) : Row w (some ⟨b, 0, none⟩) n cap (u8s (fl f n)) :=
  Row.at (by rw [u8s_length, fl_length]) hc (u8s_one _) (fun i v hv => by
    have hi : i < n := by have := (List.getElem?_eq_some_iff.1 hv).1; rwa [u8s_length, fl_length] at this
    rw [fl_get _ _ _ hi] at hv
    cases hv
    rw [Nat.zero_add]
    exact (h i (by omega)).1)
theorem make_bytes (w : World) (m : Nat) (hm : m ≤ 140737488355328) : ∃ w', (Instr.makeSlice 33 (.int .i64 (m : Int)) (.int .i64 (m : Int))).run Try.prog w = .ok (.slice (some ⟨w.heap.size, 0, none⟩) m m) w' ∧
    Cel w' w.heap.size m (fun _ => 0) ∧ w.heap.size < w'.heap.size ∧ Below w.heap.size w w' := by
  obtain ⟨i, hi, hz0, hz1, hz2⟩ := info_parts info5
  obtain ⟨w', hr, ho, hg⟩ := run_make_full (P := Try.prog) w w.heap.size 33 5 i _ 1 Try.underlying33 hi hz0 hz1 .i64 .i64 m (by rw [hz2]; omega) (by unfold maxLen; omega) (Nat.le_refl _)
  rcases ho.2 with ⟨h0, _⟩ | ⟨g, c, cur, hv, hg2, hh, hc, hm, hsz, htk⟩
  · simp at h0
  · simp only [Value.slice.injEq, Option.some.injEq, Addr.mk.injEq] at hv
    obtain ⟨⟨rfl, _⟩, _, rfl⟩ := hv
    refine ⟨w', hr, fun j hj => ⟨?_, by simp [World.frozen?, hh]⟩, (Array.getElem?_eq_some_iff.1 hh).1, (Below.refl _ _).grown hg (Nat.le_refl _) (fun k hk => by cases hk)⟩
    have hq := ho.cells (g := w.heap.size) rfl j (.int .u8 0) (by
      simp only [madeCells, Array.getElem?_toList, Value.cells]
      simp [hj, Nat.mod_one])
    rwa [addr_add0] at hq
/-- What 'lent' lays. -/
def lf (D : List Nat) (n i : Nat) : Nat → Nat := fun j => if j < i then (if j < n then D.getD j 0 else 129 + (j - n)) else 0
def LentRel1 (w : World) (D : List Nat) (n b : Nat) (v : Value) (w' : World) : Prop := ∃ i : Nat, v = .int .i64 (i : Int) ∧ i ≤ n ∧ Cel w' b (n + 120) (lf D n i) ∧ Below w.heap.size w w'
def LentRel2 (w : World) (D : List Nat) (n b : Nat) (v : Value) (w' : World) : Prop := ∃ k : Nat, v = .int .i64 ((n + k : Nat) : Int) ∧ k ≤ 120 ∧ Cel w' b (n + 120) (lf D n (n + k)) ∧ Below w.heap.size w w'
theorem lf_next (D : List Nat) (n i j : Nat) : lf D n (i + 1) j = if j = i then (if i < n then D.getD i 0 else 129 + (i - n)) else lf D n i j := by
  unfold lf
  by_cases e : j = i
  · subst e
    simp
  · rw [if_neg e]
    by_cases h : j < i
    · rw [if_pos h, if_pos (by omega)]
    · rw [if_neg h, if_neg (by omega)]
set_option maxRecDepth 100000 in
set_option maxHeartbeats 1000000 in
theorem lent_any (a : Option Addr) (n cap : Nat) (D : List Nat) (w : World) (h : Row w a n cap (u8s D)) (hr : n + 120 ≤ 140737488355328) :
    Calls Try.prog 18 #[.slice a n cap] w fun e w' => ∃ b, e = .returned (.slice (some ⟨b, 0, none⟩) (n + 120) (n + 120)) ∧ Cel w' b (n + 120) (lf D n (n + 120)) ∧ w.heap.size ≤ b ∧ b < w'.heap.size ∧ Below w.heap.size w w' := by
  obtain ⟨w0, hmk, hC, hlt0, hB0⟩ := make_bytes w (n + 120) hr
  have hmk2 : (Instr.makeSlice 33 (.int .i64 ((n : Int) + 120)) (.int .i64 ((n : Int) + 120))).run Try.prog w = .ok (.slice (some ⟨w.heap.size, 0, none⟩) (n + 120) (n + 120)) w0 := by
    have e : ((n + 120 : Nat) : Int) = (n : Int) + 120 := by omega
    rw [e] at hmk
    exact hmk
  have hlen : D.length = n := by have := h.len; rwa [u8s_length] at this
  have HR := hid h
  have HC : Hid (Cel w0 w.heap.size (n + 120) (lf D n 0)) := hid (fun j hj => by simpa [lf] using hC j hj)
  have HB0 := hid hB0
  have hsz : w.heap.size ≤ w.heap.size := Nat.le_refl _
  clear hmk h hC hB0 hlt0
  go_enter Try.func18, Try.ntmps18
  go_upto_region 3 with fail
  go_loopw [4] (LentRel1 w D n w.heap.size) (fun k _ => n - (intOf k).toNat)
  case atStart => exact ⟨0, rfl, Nat.zero_le _, HC.out, HB0.out⟩
  case round =>
    obtain ⟨i, rfl, hi, hC1, hB⟩ := hrel
    have HC1 := hid hC1
    have HB := hid hB
    clear hC1 hB
    by_cases hlt : i < n
    · have hd : decide ((i : Int) < (n : Int)) = true := decide_eq_true (by omega)
      obtain ⟨b, o, rfl, hc⟩ := HR.out.plain (by omega)
      have y := cell_later HB.out (hc i _ (u8s_get D i (by omega)))
      obtain ⟨x, hx⟩ : ∃ x, x = D[i] := ⟨_, rfl⟩
      rw [← hx] at y
      have z := HC1.out i (by omega)
      have z1 := z.1
      have z2 := z.2
      have HN : Hid (Cel (wr.setCell ⟨w.heap.size, i, none⟩ (.int .u8 ((x : Nat) : Int))) w.heap.size (n + 120) (lf D n (i + 1))) := hid (HC1.out.set (by omega) (fun j hj => by
        rw [lf_next, if_pos hlt, hx, List.getD_eq_getElem?_getD, List.getElem?_eq_getElem (by omega)]
        rfl))
      have HNB : Hid (Below w.heap.size w (wr.setCell ⟨w.heap.size, i, none⟩ (.int .u8 ((x : Nat) : Int)))) := HB.out.setCell (Nat.le_refl _) _
      clear z hc hx
      go_wp2
      exact ⟨⟨i + 1, rfl, by omega, HN.out, HNB.out⟩, by simp [intOf]; omega⟩
    · obtain rfl : i = n := by omega
      have hd : decide ((i : Int) < (i : Int)) = false := by simp
      go_upto_region 7 with fail
      go_loopw [5] (LentRel2 w D i w.heap.size) (fun k _ => i + 120 - (intOf k).toNat)
      case atStart => exact ⟨0, rfl, Nat.zero_le _, HC1.out, HB.out⟩
      case round =>
        clear HC1 HB
        obtain ⟨k, rfl, hk, hC1, hB⟩ := hrel
        rename World => wq
        have HC1 := hid hC1
        have HB := hid hB
        clear hC1 hB
        by_cases hlt : k < 120
        · have hd2 : decide (((i + k : Nat) : Int) < ((i + 120 : Nat) : Int)) = true := decide_eq_true (by omega)
          have z := HC1.out (i + k) (by omega)
          have z1 := z.1
          have z2 := z.2
          have HN : Hid (Cel (wq.setCell ⟨w.heap.size, i + k, none⟩ (.int .u8 ((129 + k : Nat) : Int))) w.heap.size (i + 120) (lf D i (i + (k + 1)))) := hid (HC1.out.set (by omega) (fun j hj => by
            have e : (if i + k < i then D.getD (i + k) 0 else 129 + (i + k - i)) = 129 + k := by rw [if_neg (by omega)]; omega
            rw [← Nat.add_assoc, lf_next, e]))
          have HNB : Hid (Below w.heap.size w (wq.setCell ⟨w.heap.size, i + k, none⟩ (.int .u8 ((129 + k : Nat) : Int)))) := HB.out.setCell (Nat.le_refl _) _
          have ev : 129 + ((i : Int) + (k : Int)) - (i : Int) = ((129 + k : Nat) : Int) := by omega
          have HEV := hid ev
          clear z ev
          go_wp2
          rw [HEV.out]
          exact ⟨⟨k + 1, by go_num, by omega, HN.out, HNB.out⟩, by simp [intOf]; omega⟩
        · obtain rfl : k = 120 := by omega
          have hd2 : decide (((i + 120 : Nat) : Int) < ((i + 120 : Nat) : Int)) = false := by simp
          go_wp2
          go_ret
          exact ⟨_, rfl, HC1.out, Nat.le_refl _, World.block_lt_of_cell? _ _ (HC1.out 0 (by omega)).1, HB.out⟩
end Go.Proofs.Ytfcfacchppkmdaa
