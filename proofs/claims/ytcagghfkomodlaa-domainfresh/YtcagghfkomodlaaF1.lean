import Derived.Test.YtcagghfkomodlaaB7
namespace Go.Proofs.Ytcagghfkomodlaa
open Go.RowKit
set_option linter.unusedVariables false
set_option linter.unusedSimpArgs false

/-! ### markedCaps -/
/-- The mark of list k. -/
def mrk (k : Nat) : Cp := (-1 - (k : Int), 0, 0)
theorem info22 : (Try.prog.info? 22).map (fun i => (i.zero, i.size, i.bytes)) = some (some (.slice none 0 0), 1, 24) := by kernel_rfl
theorem caps_rep (k n : Nat) : caps (List.replicate n (mrk k)) ++ encC (mrk k) = caps (List.replicate (n + 1) (mrk k)) := by
  rw [← caps_snoc, ← List.replicate_succ']
/-- Four lists, and the list of them. -/
structure Mk (w : World) (bl : Nat) (q : Nat → Option Addr) (cp : Nat → Nat) (ln : Nat → Nat) (K : Nat → List Cp) : Prop where
  c : ∀ k, k < 4 → w.cell? ⟨bl, k, none⟩ = some (.slice (q k) (ln k) (cp k))
  ow : ∀ k, k < 4 → Ow w 0 35 3 (q k) (ln k) (cp k) (caps (K k))
  len : ∀ k, k < 4 → (K k).length = ln k
  ne : ∀ a b j, a < 4 → b < 4 → a ≠ b → Blk (q a) j → ¬ Blk (q b) j
  nb : ∀ k, k < 4 → ¬ Blk (q k) bl
  small : ∀ k, ln k ≤ 512
def Qb (q : Nat → Option Addr) (j : Nat) : Prop := ∃ k, k < 4 ∧ Blk (q k) j
theorem Qb.of {q : Nat → Option Addr} {k j : Nat} (h : k < 4) (hj : Blk (q k) j) : Qb q j := ⟨k, h, hj⟩
theorem apart2 {q : Nat → Option Addr} (h : ∀ a b j, a < 4 → b < 4 → a ≠ b → Blk (q a) j → ¬ Blk (q b) j) {a b j : Nat} (ha : a < 4) (hb : b < 4) (hne : a ≠ b) (h1 : Blk (q a) j) : ¬ Blk (q b) j := h a b j ha hb hne h1
/-- One element of list k is written. -/
theorem Mk.set {w : World} {bl : Nat} {q : Nat → Option Addr} {cp : Nat → Nat} {ln : Nat → Nat} {K : Nat → List Cp} (h : Mk w bl q cp ln K) {k i g : Nat} (hk : k < 4) (hg : q k = some ⟨g, 0, none⟩) (c : Cp) : Mk (setC w g (i * 3) c) bl q cp ln (fun j => if j = k then (K k).set i c else K j) ∧ But (Qb q) w (setC w g (i * 3) c) := by
  have hgb : Blk (q k) g := ⟨_, hg, rfl⟩
  have hb : But (· = g) w (setC w g (i * 3) c) := setC_but (S := (· = g)) (But.refl _ _) (b := g) (by rfl) _ _
  refine ⟨⟨fun j hj => cell_but hb (h.c j hj) (fun e => h.nb k hk (by show Blk (q k) bl; rw [show bl = g from e]; exact hgb)), fun j hj => ?_, fun j hj => ?_, h.ne, h.nb, h.small⟩, hb.mono (fun j e => Qb.of hk (by rw [show j = g from e]; exact hgb))⟩
  · by_cases e : j = k
    · subst e
      rw [if_pos rfl]
      have := h.ow j hj
      rw [hg] at this ⊢
      exact this.setC i c
    · rw [if_neg e]
      refine (h.ow j hj).but hb (fun m hm e2 => ?_)
      exact apart2 h.ne hj hk e hm (by rw [show m = g from e2]; exact hgb)
  · by_cases e : j = k
    · subst e
      rw [if_pos rfl, List.length_set]
      exact h.len j hj
    · rw [if_neg e]
      exact h.len j hj
/-- Those ahead of k are full of their marks. -/
def Full (ln : Nat → Nat) (k : Nat) (K : Nat → List Cp) : Prop := ∀ j, j < k → j < 4 → K j = List.replicate (ln j) (mrk j)
def W1Rel (w : World) (bl : Nat) (q : Nat → Option Addr) (cp : Nat → Nat) (ln : Nat → Nat) (t : Value) (w' : World) : Prop :=
  ∃ (k : Nat) (K : Nat → List Cp), k ≤ 4 ∧ t = .int .i64 (k : Int) ∧ Mk w' bl q cp ln K ∧ Full ln k K ∧ But (Qb q) w w'
def W2Rel (w : World) (bl : Nat) (q : Nat → Option Addr) (cp : Nat → Nat) (ln : Nat → Nat) (k : Nat) (t : Value) (w' : World) : Prop :=
  ∃ (i : Nat) (K : Nat → List Cp), i ≤ ln k ∧ t = .int .i64 (i : Int) ∧ Mk w' bl q cp ln K ∧ Full ln k K ∧ (∀ j, j < i → (K k)[j]? = some (mrk k)) ∧ But (Qb q) w w'
def W4Rel (wc : World) (a : Option Addr) (c0 n k : Nat) (s t : Value) (w' : World) : Prop :=
  ∃ (i : Nat) (b : Option Addr) (c : Nat), i ≤ 40 ∧ t = .int .i64 (i : Int) ∧ s = .slice b (n + i) c ∧ Lz wc w' 0 35 3 a c0 (caps (List.replicate n (mrk k))) b c (n + i) (caps (List.replicate (n + i) (mrk k)))
/-- The lists so far. -/
structure W3 (wb : World) (q : Nat → Option Addr) (cp : Nat → Nat) (ln : Nat → Nat) (k : Nat) (a : Option Addr) (cap : Nat) (L : List Value) (w : World) : Prop where
  ow : Own w wb.heap.size 22 a k cap L
  bb : But (Qb q) wb w
  rv : ∀ j, j < 4 → Rv w (q j) (caps (List.replicate (ln j) (mrk j)))
  fu : ∀ j, k ≤ j → j < 4 → Ow w 0 35 3 (q j) (ln j) (cp j) (caps (List.replicate (ln j) (mrk j)))
  el : ∀ j v, L[j]? = some v → ∃ b c, v = .slice b (ln j + 40) c ∧ Rd w b (ln j + 40) (List.replicate (ln j + 40) (mrk j)) ∧ ∀ i, Blk b i → ¬ Blk a i ∧ i < w.heap.size ∧ (Blk (q j) i ∨ wb.heap.size ≤ i)
def W3Rel (wb : World) (q : Nat → Option Addr) (cp : Nat → Nat) (ln : Nat → Nat) (s t : Value) (w' : World) : Prop :=
  ∃ (k : Nat) (a : Option Addr) (cap : Nat) (L : List Value), k ≤ 4 ∧ t = .int .i64 (k : Int) ∧ s = .slice a k cap ∧ W3 wb q cp ln k a cap L w'
def W6Rel (w : World) (n : Nat) (t : Value) (w' : World) : Prop := ∃ i : Nat, i ≤ n + 40 ∧ t = .int .i64 (i : Int) ∧ w' = w
def W5Rel (w : World) (t : Value) (w' : World) : Prop := ∃ k : Nat, k ≤ 4 ∧ t = .int .i64 (k : Int) ∧ w' = w
/-- A list is lengthened and put in with the others. -/
theorem W3.next {wb wc we : World} {q : Nat → Option Addr} {cp : Nat → Nat} {ln : Nat → Nat} {k : Nat} {a : Option Addr} {cap : Nat} {L : List Value} (h : W3 wb q cp ln k a cap L wc) (hk : k < 4) (ne : ∀ a b j, a < 4 → b < 4 → a ≠ b → Blk (q a) j → ¬ Blk (q b) j) (hq : ∀ j, j < 4 → ∀ i, Blk (q j) i → i < wb.heap.size) (hn : ln k ≤ 512) {b : Option Addr} {c : Nat}
    (hz : Lz wc we 0 35 3 (q k) (cp k) (caps (List.replicate (ln k) (mrk k))) b c (ln k + 40) (caps (List.replicate (ln k + 40) (mrk k)))) :
    ∃ a6 cap6 w6, (Builtin.append_ #[45, 45] 45 #[.slice a k cap, .slice (some ⟨we.heap.size, 0, none⟩) 1 1]).run Try.prog (we.alloc (Obj.cells #[.slice b (ln k + 40) c] 22)) = .ok (.slice a6 (k + 1) cap6) w6 ∧ W3 wb q cp ln (k + 1) a6 cap6 (L ++ [.slice b (ln k + 40) c]) w6 := by
  have hbx := below1 we (Obj.cells #[.slice b (ln k + 40) c] 22)
  have hsc := h.bb.size
  have hse := hz.gr.but.size
  have hab : ∀ i, Blk a i → wb.heap.size ≤ i ∧ i < wc.heap.size := fun i hi => ⟨h.ow.blk i hi, h.ow.lt i hi⟩
  have hqk : ∀ i, Blk (q k) i → i < wb.heap.size := hq k hk
  have hOb := (h.ow.but hz.gr.but (fun i hi hi2 => by have := hab i hi; have := hqk i hi2; omega)).later hbx
  obtain ⟨a6, cap6, w6, hr6, ho6, hg6⟩ := append_gen 45 22 _ 24 Try.underlying45 info22 rfl hOb (Row.single we 22 (.slice b (ln k + 40) c) rfl) (Nat.le_trans hsc (Nat.le_trans hse hbx.size)) (by omega) (by omega)
  have hs6 := hg6.but.size
  have hsx := hbx.size
  have hbl : ∀ i, Blk b i → (Blk (q k) i ∨ wc.heap.size ≤ i) ∧ i < we.heap.size := fun i hi => ⟨hz.gr.on i hi, (hz.ow.blk i hi).2⟩
  refine ⟨a6, cap6, w6, hr6, ho6, ?_, fun j hj => ?_, fun j hj hj2 => ?_, fun j v hv => ?_⟩
  · exact (((h.bb.trans (hz.gr.but.mono (fun i hi => Qb.of hk hi))).call hbx)).comp hg6.but (fun i hi => .inr (hab i hi).1)
  · have h1 : Rv we (q j) (caps (List.replicate (ln j) (mrk j))) := by
      by_cases e : j = k
      · subst e; exact hz.rv
      · exact (h.rv j hj).but hz.gr.but (fun i hi => apart2 ne hj hk e hi)
    exact (h1.later hbx).but hg6.but (fun i hi hi2 => by have := hab i hi2; have := hq j hj i hi; omega)
  · have h1 := (h.fu j (by omega) hj2).but hz.gr.but (fun i hi => apart2 ne hj2 hk (by omega) hi)
    exact (h1.later hbx).but hg6.but (fun i hi hi2 => by have := hab i hi2; have := hq j hj2 i hi; omega)
  · have hL := h.ow.len
    rcases Nat.lt_or_ge j k with h3 | h3
    · rw [List.getElem?_append_left (by omega)] at hv
      obtain ⟨b', c', e, hrd, hnb⟩ := h.el j v hv
      have hrd1 := hrd.but hz.gr.but (fun i hi hi2 => by
        rcases (hnb i hi).2.2 with h4 | h4
        · exact apart2 ne (by omega) hk (by omega) h4 hi2
        · have := hqk i hi2; omega)
      refine ⟨b', c', e, (hrd1.later hbx).but hg6.but (fun i hi => (hnb i hi).1), fun i hi => ⟨fun hi2 => ?_, by have := (hnb i hi).2.1; omega, (hnb i hi).2.2⟩⟩
      rcases hg6.on i hi2 with h4 | h4
      · exact (hnb i hi).1 h4
      · have := (hnb i hi).2.1; omega
    · have hj : j = k := by
        have := (List.getElem?_eq_some_iff.1 hv).1
        simp at this
        omega
      subst hj
      rw [List.getElem?_append_right (by omega)] at hv
      have e0 : j - L.length = 0 := by omega
      rw [e0] at hv
      simp at hv
      subst hv
      have hna : ∀ i, Blk b i → ¬ Blk a i := fun i hi hi2 => by
        have h5 := hab i hi2
        rcases (hbl i hi).1 with h4 | h4
        · have := hqk i h4; omega
        · omega
      refine ⟨b, c, rfl, ((hz.ow.rd (by simp)).later hbx).but hg6.but hna, fun i hi => ⟨fun hi2 => ?_, by have := (hbl i hi).2; omega, ?_⟩⟩
      · rcases hg6.on i hi2 with h4 | h4
        · exact hna i hi h4
        · have := (hbl i hi).2; omega
      · rcases (hbl i hi).1 with h4 | h4
        · exact .inl h4
        · exact .inr (by omega)
set_option maxRecDepth 100000 in
set_option maxHeartbeats 20000000 in
theorem mark_any {w : World} {bl : Nat} {q : Nat → Option Addr} {cp : Nat → Nat} {ln : Nat → Nat} {K0 : Nat → List Cp} (cl : Nat) (h : Mk w bl q cp ln K0) :
    Calls Try.prog 16 #[.slice (some ⟨bl, 0, none⟩) 4 cl] w fun e w' => e = .returned (.bool true) ∧ But (Qb q) w w' := by
  have HH := hid h
  have hsm := h.small
  clear h
  go_enter Try.func16, Try.ntmps16
  go_upto_region 2 with fail
  go_loopw [3] (W1Rel w bl q cp ln) (fun t _ => 4 - (intOf t).toNat)
  case atStart => exact ⟨0, K0, by omega, rfl, HH.out, fun j hj => absurd hj (Nat.not_lt_zero _), But.refl _ _⟩
  case round =>
    obtain ⟨k, K, hk, rfl, hM, hF, hB⟩ := hrel
    have HM := hid hM
    have HF := hid hF
    have HB := hid hB
    clear hM hF hB
    by_cases hk2 : k < 4
    · go_upto_region 5 with fail
      go_loopw [4] (W2Rel w bl q cp ln k) (fun t _ => ln k - (intOf t).toNat)
      case atStart => exact ⟨0, K, Nat.zero_le _, rfl, HM.out, HF.out, fun j hj => absurd hj (Nat.not_lt_zero _), HB.out⟩
      case round =>
        obtain ⟨i, K2, hi, rfl, hM2, hF2, hm2, hB2⟩ := hrel
        have x0 := hM2.c k hk2
        have HM2 := hid hM2
        have HF2 := hid hF2
        have HM3 := hid hm2
        have HB2 := hid hB2
        clear hF2 hm2 hB2
        by_cases hlt : i < ln k
        · have hOw := hM2.ow k hk2
          have hl := hM2.len k hk2
          obtain ⟨c, hc⟩ : ∃ c, (K2 k)[i]? = some c := ⟨_, List.getElem?_eq_getElem (by omega)⟩
          rcases hOw.form with ⟨_, h0, _⟩ | ⟨g, hg, hfr, hnc⟩
          · omega
          obtain ⟨b', o', e', hcel⟩ := (hOw.rd hl).at_ (by omega)
          rw [hg] at e'
          cases e'
          obtain ⟨c0, c1, c2⟩ := hcel i c hc
          simp only [Nat.zero_add] at c0 c1 c2
          have HST := hid (hM2.set (i := i) hk2 hg (mrk k))
          rw [hg] at x0
          have hwr : IntKind.i64.wrap (-1 - (k : Int)) = -1 - (k : Int) := by rw [IntKind.wrap_i64]; omega
          generalize cp k = cpk at *
          have hsk := hsm k
          generalize hnk : ln k = n at *
          have HNK := hid hnk
          clear hM2 hOw hc hcel hg hnk
          go_wp2
          refine ⟨⟨i + 1, _, by have := HNK.out; omega, by go_num, HST.out.1, fun j hj hj2 => ?_, fun j hj => ?_, HB2.out.trans HST.out.2⟩, by simp [intOf]; omega⟩
          · have e : ¬ j = k := by omega
            simp only [if_neg e]
            exact HF2.out j hj hj2
          · simp only [if_true]
            rw [List.getElem?_set]
            by_cases e : i = j
            · subst e
              rw [if_pos rfl, if_pos (by omega)]
            · rw [if_neg e]
              exact HM3.out j (by omega)
        · have hfu : Full ln (k + 1) K2 := fun j hj hj2 => by
            rcases Nat.lt_or_ge j k with h3 | h3
            · exact HF2.out j h3 hj2
            · obtain rfl : j = k := by omega
              apply List.ext_getElem?
              intro m
              have hl := HM2.out.len j hk2
              rcases Nat.lt_or_ge m (ln j) with h4 | h4
              · rw [HM3.out m (by omega), List.getElem?_replicate, if_pos h4]
              · rw [List.getElem?_eq_none (by omega), List.getElem?_eq_none (by simp; omega)]
          have HFU := hid hfu
          generalize q k = qk at x0
          generalize cp k = cpk at x0
          have hsk := hsm k
          generalize hnk : ln k = n at x0 hi hlt hsk ⊢
          have HNK := hid hnk
          clear hM2 hfu hnk
          go_wp2
          exact ⟨⟨k + 1, K2, by omega, by go_num, HM2.out, HFU.out, HB2.out⟩, by simp [intOf]; omega⟩
    · obtain rfl : k = 4 := by omega
      have HW0 : Hid (W3 wr q cp ln 0 none 0 [] wr) := ⟨Own.nil _ _ _, But.refl _ _, fun j hj => by have := (HM.out.ow j hj).rv; rwa [HF.out j hj hj] at this, fun j _ hj => by have := HM.out.ow j hj; rwa [HF.out j hj hj] at this, fun j v hv => by cases hv⟩
      have HQ : Hid (∀ j, j < 4 → ∀ i, Blk (q j) i → i < wr.heap.size) := fun j hj i hi => ((HM.out.ow j hj).blk i hi).2
      go_upto_region 10 with fail
      obtain ⟨wb, hwb⟩ : ∃ wb, wb = wr := ⟨_, rfl⟩
      rw [← hwb] at HM HB HW0 HQ ⊢
      clear hwb
      simp only [Int.cast_ofNat_Int]
      go_loopw [5, 6] (W3Rel wb q cp ln) (fun _ t _ => 4 - (intOf t).toNat)
      case atStart => exact ⟨0, none, 0, [], by omega, rfl, rfl, HW0.out⟩
      case round =>
        obtain ⟨k, a, cap, L, hk, rfl, rfl, hW⟩ := hrel
        have HW := hid hW
        by_cases hk2 : k < 4
        · have x0 := cell_but hW.bb (HM.out.c k hk2) (fun e => by obtain ⟨z, hz, e⟩ := e; exact HM.out.nb z hz e)
          have hwr : IntKind.i64.wrap (-1 - (k : Int)) = -1 - (k : Int) := by rw [IntKind.wrap_i64]; omega
          have hkd : decide ((k : Int) < 4) = true := decide_eq_true (by omega)
          have HLZ := hid (Lz.start (hW.fu k (Nat.le_refl _) hk2))
          have HNX : Hid (∀ (we : World) (b : Option Addr) (c : Nat), Lz wr we 0 35 3 (q k) (cp k) (caps (List.replicate (ln k) (mrk k))) b c (ln k + 40) (caps (List.replicate (ln k + 40) (mrk k))) → ∃ a6 cap6 w6, (Builtin.append_ #[45, 45] 45 #[.slice a k cap, .slice (some ⟨we.heap.size, 0, none⟩) 1 1]).run Try.prog (we.alloc (Obj.cells #[.slice b (ln k + 40) c] 22)) = .ok (.slice a6 (k + 1) cap6) w6 ∧ W3 wb q cp ln (k + 1) a6 cap6 (L ++ [.slice b (ln k + 40) c]) w6) := fun we b c hz => HW.out.next hk2 HM.out.ne HQ.out (hsm k) hz
          clear hW
          generalize q k = qk at *
          generalize cp k = cpk at *
          have hsk := hsm k
          generalize ln k = n at *
          go_upto_region 14 with fail
          clear hkd
          obtain ⟨wc, hwc⟩ : ∃ wc, wc = wr := ⟨_, rfl⟩
          rw [← hwc] at HW HLZ HNX x0 ⊢
          clear hwc x0
          go_loopw [7, 8] (W4Rel wc qk cpk n k) (fun _ t _ => 40 - (intOf t).toNat)
          case atStart => exact ⟨0, _, _, by omega, rfl, rfl, HLZ.out⟩
          case round =>
            obtain ⟨i, b4, c4, hi, rfl, rfl, hz⟩ := hrel
            by_cases hi4 : i < 40
            · have hbx := below1 wr (Obj.cells #[.int .i64 (-1 - (k : Int)), .int .u64 0, .int .u64 0] 35)
              have hcx : Cr (wr.alloc (Obj.cells #[.int .i64 (-1 - (k : Int)), .int .u64 0, .int .u64 0] 35)) 3 (some ⟨wr.heap.size, 0, none⟩) 1 1 (encC (mrk k)) := Cr.lit wr 35 (encC (mrk k)) (encC_one _)
              obtain ⟨a5, cap5, w5, hr5, hz5⟩ := Lz.app 22 35 _ 3 24 Try.underlying22 info35 rfl (by omega) (by omega) hz hbx hcx (by omega) (Nat.zero_le _) (by omega)
              rw [caps_rep] at hz5
              have HR5 := hid hr5
              have HZ5 := hid hz5
              clear hr5 hz5 hbx hcx hz
              go_wp2_with (first | (at_builtin; refine wpList_append_known rfl _ _ 22 rfl _ _ rfl rfl _ w5 HR5.out ?_))
              exact ⟨⟨i + 1, a5, cap5, by omega, by go_num, by rw [Nat.add_assoc], HZ5.out⟩, by simp [intOf]; omega⟩
            · obtain rfl : i = 40 := by omega
              obtain ⟨a6, cap6, w6, hr6, hW6⟩ := HNX.out wr b4 c4 hz
              have HR6 := hid hr6
              have HW6 := hid hW6
              clear hr6 hW6 hz
              go_wp2_with (first | (at_builtin; refine wpList_append_known rfl _ _ 45 rfl _ _ rfl rfl _ w6 HR6.out ?_))
              exact ⟨⟨k + 1, a6, cap6, _, by omega, by go_num, rfl, HW6.out⟩, by simp [intOf]; omega⟩
        · obtain rfl : k = 4 := by omega
          have HRw := hid hW.ow.read
          clear hW
          go_upto_region 19 with fail
          obtain ⟨wd, hwd⟩ : ∃ wd, wd = wr := ⟨_, rfl⟩
          rw [← hwd] at HRw HW ⊢
          clear hwd
          simp only [Int.cast_ofNat_Int]
          have HMd : Hid (∀ k, k < 4 → wd.cell? ⟨bl, k, none⟩ = some (.slice (q k) (ln k) (cp k))) := fun k hk => cell_but HW.out.bb (HM.out.c k hk) (fun e => by obtain ⟨z, hz, e⟩ := e; exact HM.out.nb z hz e)
          go_loopw [9] (W5Rel wd) (fun t _ => 4 - (intOf t).toNat)
          case atStart => exact ⟨0, by omega, rfl, rfl⟩
          case round =>
            obtain ⟨k, hk, rfl, rfl⟩ := hrel
            by_cases hk2 : k < 4
            · have hwr : IntKind.i64.wrap (-1 - (k : Int)) = -1 - (k : Int) := by rw [IntKind.wrap_i64]; omega
              obtain ⟨v, hv⟩ : ∃ v, L[k]? = some v := ⟨_, List.getElem?_eq_getElem (by rw [HRw.out.len]; exact hk2)⟩
              obtain ⟨bx, cx, rfl, hrd, _⟩ := HW.out.el k v hv
              obtain ⟨ba, oa, rfl, hcl⟩ := HRw.out.plain (by omega)
              have xl := hcl k _ hv
              obtain ⟨bb, oo, rfl, hcel⟩ := hrd.at_ (by omega)
              have HCEL := hid hcel
              have xa := HMd.out k hk2
              have HRV := hid (HW.out.rv k hk2)
              have HOF := hid ((HM.out.ow k hk2).form)
              clear hv hrd hcl hcel
              generalize q k = qk at *
              generalize cp k = cpk at *
              have hsk := hsm k
              generalize ln k = n at *
              go_upto_region 22 with fail
              go_loopw [10] (W6Rel wr n) (fun t _ => n + 40 - (intOf t).toNat)
              case atStart => exact ⟨0, Nat.zero_le _, rfl, rfl⟩
              case round =>
                obtain ⟨i, hi, rfl, rfl⟩ := hrel
                by_cases hin : i < n + 40
                · have e0 := (HCEL.out i (mrk k) (by rw [List.getElem?_replicate, if_pos hin])).c0
                  have hm1 : (mrk k).1 = -1 - (k : Int) := rfl
                  rw [hm1] at e0
                  have hini : (i : Int) < (n : Int) + 40 := by omega
                  by_cases hi2 : i < n
                  · rcases HOF.out with ⟨_, h0, _⟩ | ⟨g, hg, _, _⟩
                    · omega
                    have f0 := HRV.out g hg (i * 3) (.int .i64 (-1 - (k : Int))) (by
                      have := cls_get (enc := encC) (k := 3) (fun _ => rfl) (List.replicate n (mrk k)) i 0 (mrk k) (by rw [List.getElem?_replicate, if_pos hi2]) (by omega)
                      rw [Nat.add_zero] at this
                      exact this)
                    subst hg
                    clear hm1
                    go_wp2
                    exact ⟨⟨i + 1, by omega, by go_num, rfl⟩, by simp [intOf]; omega⟩
                  · clear hm1
                    go_wp2
                    exact ⟨⟨i + 1, by omega, by go_num, rfl⟩, by simp [intOf]; omega⟩
                · have hini : ¬ (i : Int) < (n : Int) + 40 := by omega
                  go_wp2
                  exact ⟨⟨k + 1, by omega, by go_num, rfl⟩, by simp [intOf]; omega⟩
            · go_wp2
              go_ret
              exact ⟨rfl, HB.out.trans HW.out.bb⟩
end Go.Proofs.Ytcagghfkomodlaa
