import Derived.Test.YtdkadmnhfnilkaaF1
namespace Go.Proofs.Ytdkadmnhfnilkaa
open Go.RowKit
set_option linter.unusedVariables false

/-- Two lists of n, and the list of both. -/
structure Mk (w : World) (bl : Nat) (q : Nat → Nat) (n : Nat) (K : Nat → List Cp) : Prop where
  c : ∀ k, k < 2 → w.cell? ⟨bl, k, none⟩ = some (.slice (some ⟨q k, 0, none⟩) n n)
  ca : ∀ k, k < 2 → Ca w (q k) (K k)
  len : ∀ k, k < 2 → (K k).length = n
  ne : q 0 ≠ q 1
  nb : ∀ k, k < 2 → q k ≠ bl
  small : n ≤ 512
def Qb (q : Nat → Nat) (k : Nat) : Prop := k = q 0 ∨ k = q 1
theorem Qb.of {q : Nat → Nat} {k : Nat} (h : k < 2) : Qb q (q k) := by
  have : k = 0 ∨ k = 1 := by omega
  rcases this with rfl | rfl
  · exact .inl rfl
  · exact .inr rfl
theorem Mk.later {w w' : World} {bl : Nat} {q : Nat → Nat} {n : Nat} {K : Nat → List Cp} (hb : Below w.heap.size w w') (h : Mk w bl q n K) : Mk w' bl q n K :=
  ⟨fun k hk => cell_later hb (h.c k hk), fun k hk => (h.ca k hk).later hb, h.len, h.ne, h.nb, h.small⟩
/-- One element of list k is written. -/
theorem Mk.set {w : World} {bl : Nat} {q : Nat → Nat} {n : Nat} {K : Nat → List Cp} (h : Mk w bl q n K) {k i : Nat} (hk : k < 2) (hi : i < n) (c : Cp) : Mk (setC w (q k) (i * 3) c) bl q n (fun j => if j = k then (K k).set i c else K j) := by
  have hb : But (· = q k) w (setC w (q k) (i * 3) c) := setC_but (S := (· = q k)) (But.refl _ _) (b := q k) (by rfl) _ _
  refine ⟨fun j hj => cell_but hb (h.c j hj) (fun e => h.nb k hk e.symm), fun j hj => ?_, fun j hj => ?_, h.ne, h.nb, h.small⟩
  · by_cases e : j = k
    · subst e
      rw [if_pos rfl]
      exact (h.ca j hj).set (by rw [h.len j hj]; exact hi) c
    · rw [if_neg e]
      refine (h.ca j hj).but hb (fun e2 => ?_)
      have h0 := h.ne
      have a1 : j = 0 ∨ j = 1 := by omega
      have a2 : k = 0 ∨ k = 1 := by omega
      rcases a1 with rfl | rfl <;> rcases a2 with rfl | rfl
      · exact e rfl
      · exact h0 e2
      · exact h0 e2.symm
      · exact e rfl
  · by_cases e : j = k
    · subst e
      rw [if_pos rfl, List.length_set]
      exact h.len j hj
    · rw [if_neg e]
      exact h.len j hj
/-- Those ahead of k are full of their marks. -/
def Full (n k : Nat) (K : Nat → List Cp) : Prop := ∀ j, j < k → j < 2 → K j = List.replicate n (mrk j)
def W1Rel (w : World) (bl : Nat) (q : Nat → Nat) (n : Nat) (t : Value) (w' : World) : Prop :=
  ∃ (k : Nat) (K : Nat → List Cp), k ≤ 2 ∧ t = .int .i64 (k : Int) ∧ Mk w' bl q n K ∧ Full n k K ∧ But (Qb q) w w'
def W2Rel (w : World) (bl : Nat) (q : Nat → Nat) (n k : Nat) (t : Value) (w' : World) : Prop :=
  ∃ (i : Nat) (K : Nat → List Cp), i ≤ n ∧ t = .int .i64 (i : Int) ∧ Mk w' bl q n K ∧ Full n k K ∧ (∀ j, j < i → (K k)[j]? = some (mrk k)) ∧ But (Qb q) w w'
/-- A lengthened list, and where it lies. -/
structure Lg (w : World) (base : Nat) (k n : Nat) (v : Value) : Prop where
  ex : ∃ a cap, v = .slice a (n + 40) cap ∧ w.ownsRow base 34 3 (.slice a (n + 40) cap) (n + 40) (caps (List.replicate (n + 40) (mrk k)))
/-- Lengthened by i so far. -/
def Lz (w : World) (q0 base k n i : Nat) (b : Option Addr) (c : Nat) : Prop :=
  (i = 0 ∧ b = some ⟨q0, 0, none⟩ ∧ c = n) ∨ w.ownsRow base 34 3 (.slice b (n + i) c) (n + i) (caps (List.replicate (n + i) (mrk k)))
def W4Rel (w : World) (q0 k n : Nat) (s t : Value) (w' : World) : Prop :=
  ∃ (i : Nat) (b : Option Addr) (c : Nat), i ≤ 40 ∧ t = .int .i64 (i : Int) ∧ s = .slice b (n + i) c ∧ Lz w' q0 w.heap.size k n i b c ∧ Below w.heap.size w w'
/-- The lists so far. -/
def W3Rel (w : World) (n : Nat) (s t : Value) (w' : World) : Prop :=
  ∃ (k : Nat) (a : Option Addr) (cap : Nat) (L : List Value), k ≤ 2 ∧ t = .int .i64 (k : Int) ∧ s = .slice a k cap ∧ Own w' w.heap.size 43 a k cap L ∧ Below w.heap.size w w' ∧ ∀ j v, L[j]? = some v → ∃ b c, v = .slice b (n + 40) c ∧ Rd w' b (n + 40) (List.replicate (n + 40) (mrk j)) ∧ ∀ i, Blk b i → ¬ Blk a i
def W6Rel (w : World) (n : Nat) (t : Value) (w' : World) : Prop := ∃ i : Nat, i ≤ n + 40 ∧ t = .int .i64 (i : Int) ∧ w' = w
def W5Rel (w : World) (t : Value) (w' : World) : Prop := ∃ k : Nat, k ≤ 2 ∧ t = .int .i64 (k : Int) ∧ w' = w
set_option maxRecDepth 100000 in
set_option maxHeartbeats 20000000 in
theorem mark_any {w : World} {bl : Nat} {q : Nat → Nat} {n : Nat} {K0 : Nat → List Cp} (cl : Nat) (h : Mk w bl q n K0) :
    Calls Try.prog 19 #[.slice (some ⟨bl, 0, none⟩) 2 cl] w fun e w' => e = .returned (.bool true) ∧ But (Qb q) w w' := by
  have HH := hid h
  have hsm := h.small
  clear h
  go_enter Try.func19, Try.ntmps19
  go_wp2
  go_loopw [3] (W1Rel w bl q n) (fun t _ => 2 - (intOf t).toNat)
  case atStart => exact ⟨0, K0, by omega, rfl, HH.out, fun j hj => absurd hj (Nat.not_lt_zero _), But.refl _ _⟩
  case round =>
    obtain ⟨k, K, hk, rfl, hM, hF, hB⟩ := hrel
    have HM := hid hM
    have HF := hid hF
    have HB := hid hB
    clear hM hF hB
    by_cases hk2 : k < 2
    · go_upto_region 5 with fail
      go_loopw [4] (W2Rel w bl q n k) (fun t _ => n - (intOf t).toNat)
      case atStart => exact ⟨0, K, Nat.zero_le _, rfl, HM.out, HF.out, fun j hj => absurd hj (Nat.not_lt_zero _), HB.out⟩
      case round =>
        obtain ⟨i, K2, hi, rfl, hM2, hF2, hm2, hB2⟩ := hrel
        have x0 := hM2.c k hk2
        have HM2 := hid hM2
        have HF2 := hid hF2
        have HM3 := hid hm2
        have HB2 := hid hB2
        clear hF2 hm2 hB2
        by_cases hlt : i < n
        · have hCa := hM2.ca k hk2
          have hl := hM2.len k hk2
          obtain ⟨c, hc⟩ : ∃ c, (K2 k)[i]? = some c := ⟨_, List.getElem?_eq_getElem (by omega)⟩
          obtain ⟨c0, c1, c2⟩ := hCa.at_ _ _ hc
          have hfr := hCa.fr
          have HST := hid (hM2.set hk2 hlt (mrk k))
          have hwr : IntKind.i64.wrap (-1 - (k : Int)) = -1 - (k : Int) := by rw [IntKind.wrap_i64]; omega
          clear hM2 hCa hc
          go_wp2
          refine ⟨⟨i + 1, _, by omega, by go_num, HST.out, fun j hj hj2 => ?_, fun j hj => ?_, setC_but HB2.out (Qb.of hk2) _ (mrk k)⟩, by simp [intOf]; omega⟩
          · have e : ¬ j = k := by omega
            simp only [if_neg e]
            exact HF2.out j hj hj2
          · simp only [if_true]
            rw [List.getElem?_set]
            by_cases e : i = j
            · subst e
              rw [if_pos rfl, if_pos (by omega)]
            · rw [if_neg e]
              exact HM3.out j (by omega)
        · have hfu : Full n (k + 1) K2 := fun j hj hj2 => by
            rcases Nat.lt_or_ge j k with h3 | h3
            · exact HF2.out j h3 hj2
            · obtain rfl : j = k := by omega
              apply List.ext_getElem?
              intro m
              have hl := HM2.out.len j hk2
              rcases Nat.lt_or_ge m n with h4 | h4
              · rw [HM3.out m (by omega), List.getElem?_replicate, if_pos h4]
              · rw [List.getElem?_eq_none (by omega), List.getElem?_eq_none (by simp; omega)]
          have HFU := hid hfu
          clear hM2 hfu
          go_wp2
          exact ⟨⟨k + 1, K2, by omega, by go_num, HM2.out, HFU.out, HB2.out⟩, by simp [intOf]; omega⟩
    · obtain rfl : k = 2 := by omega
      have HCr : Hid (∀ k, k < 2 → ∀ U, Below wr.heap.size wr U → Cr U 3 (some ⟨q k, 0, none⟩) n n (caps (List.replicate n (mrk k)))) := hid (fun k hk U hU => by
        have h3 := ((HM.out.ca k hk).later hU).cr (HM.out.len k hk)
        rwa [HF.out k hk hk] at h3)
      go_upto_region 10 with fail
      obtain ⟨wb, hwb⟩ : ∃ wb, wb = wr := ⟨_, rfl⟩
      rw [← hwb] at HM HB HCr ⊢
      clear hwb
      simp only [Int.cast_ofNat_Int]
      go_loopw [5, 6] (W3Rel wb n) (fun _ t _ => 2 - (intOf t).toNat)
      case atStart => exact ⟨0, none, 0, [], by omega, rfl, rfl, Own.nil _ _ _, Below.refl _ _, fun j v hv => by cases hv⟩
      case round =>
        obtain ⟨k, a, cap, L, hk, rfl, rfl, hO, hBb, hL⟩ := hrel
        have HO := hid hO
        have HBb := hid hBb
        have HL := hid hL
        clear hO hBb hL
        by_cases hk2 : k < 2
        · have x0 := cell_later HBb.out (HM.out.c k hk2)
          have hwr : IntKind.i64.wrap (-1 - (k : Int)) = -1 - (k : Int) := by rw [IntKind.wrap_i64]; omega
          have hkd : decide ((k : Int) < 2) = true := decide_eq_true (by omega)
          go_upto_region 14 with fail
          clear hkd
          obtain ⟨wc, hwc⟩ : ∃ wc, wc = wr := ⟨_, rfl⟩
          rw [← hwc] at HO HBb HL x0 ⊢
          clear hwc x0
          go_loopw [7, 8] (W4Rel wc (q k) k n) (fun _ t _ => 40 - (intOf t).toNat)
          case atStart => exact ⟨0, _, _, by omega, rfl, rfl, .inl ⟨rfl, rfl, rfl⟩, Below.refl _ _⟩
          case round =>
            obtain ⟨i, b4, c4, hi, rfl, rfl, hz, hBc⟩ := hrel
            have HBc := hid hBc
            by_cases hi4 : i < 40
            · have hbx := below1 wr (Obj.cells #[.int .i64 (-1 - (k : Int)), .int .u64 0, .int .u64 0] 34)
              have hcx : Cr (wr.alloc (Obj.cells #[.int .i64 (-1 - (k : Int)), .int .u64 0, .int .u64 0] 34)) 3 (some ⟨wr.heap.size, 0, none⟩) 1 1 (caps [mrk k]) := cr_cap wr (mrk k)
              obtain ⟨a5, cap5, w5, hr5, ho5, hb5⟩ : ∃ a5 cap5 w5, (Builtin.append_ #[43, 43] 43 #[.slice b4 (n + i) c4, .slice (some ⟨wr.heap.size, 0, none⟩) 1 1]).run Try.prog (wr.alloc (Obj.cells #[.int .i64 (-1 - (k : Int)), .int .u64 0, .int .u64 0] 34)) = .ok (.slice a5 (n + i + 1) cap5) w5 ∧ w5.ownsRow wc.heap.size 34 3 (.slice a5 (n + i + 1) cap5) (n + i + 1) (caps (List.replicate (n + i + 1) (mrk k))) ∧ Below wc.heap.size wc w5 := by
                rcases hz with ⟨rfl, rfl, rfl⟩ | ho4
                · obtain ⟨g', c', w5, h3, h4, h5⟩ := append_full_c (HCr.out k hk2 _ (below_call HBb.out (below_call HBc.out hbx))) hcx (by omega) (by omega)
                  rw [caps_rep] at h4
                  exact ⟨_, c', w5, h3, own_mono h4 (Nat.le_trans HBc.out.size hbx.size), below_call (below_call HBc.out hbx) h5⟩
                · obtain ⟨a', c', w5, h3, h4, h5⟩ := append_k 43 34 _ 3 24 Try.underlying43 info34 rfl (by decide) (by decide) (own_but (S := fun _ => False) (But.of hbx) ho4 (fun _ _ h => h)) hcx (Nat.le_trans HBc.out.size hbx.size) (by omega)
                  rw [caps_rep] at h4
                  exact ⟨a', c', w5, h3, h4, (below_call HBc.out hbx).trans (Gr.below' h5 (own_but (S := fun _ => False) (But.of hbx) ho4 (fun _ _ h => h)) (Nat.le_trans HBc.out.size hbx.size))⟩
              have HR5 := hid hr5
              have HO5 := hid ho5
              have HB5 := hid hb5
              clear hr5 ho5 hb5 hbx hcx hz hBc
              go_wp2_with (first | (at_builtin; refine wpList_append_known rfl _ _ 43 rfl _ _ rfl rfl _ w5 HR5.out ?_))
              go_roundw
              case rel =>
                exact ⟨i + 1, a5, cap5, by omega, by go_num, by rw [Nat.add_assoc], .inr (by rw [← Nat.add_assoc]; exact HO5.out), HB5.out⟩
              case measure => simp [intOf]; omega
            · obtain rfl : i = 40 := by omega
              obtain ⟨a4, ha4⟩ : ∃ a4, a4 = b4 := ⟨_, rfl⟩
              obtain ⟨cap4, hc4⟩ : ∃ cap4, cap4 = c4 := ⟨_, rfl⟩
              subst ha4 hc4
              have ho4 : wr.ownsRow wc.heap.size 34 3 (.slice a4 (n + 40) cap4) (n + 40) (caps (List.replicate (n + 40) (mrk k))) := by
                rcases hz with ⟨e, _⟩ | h3
                · omega
                · exact h3
              have HO4 := hid ho4
              clear ho4 hz hBc
              have hbx := below1 wr (Obj.cells #[.slice a4 (n + 40) cap4] 43)
              have hOb := (HO.out.later HBc.out).later hbx
              obtain ⟨a6, cap6, w6, hr6, ho6, hg6⟩ := append_gen 51 43 _ 24 Try.underlying51 info43 rfl hOb (Row.single wr 43 (.slice a4 (n + 40) cap4) rfl) (Nat.le_trans HBb.out.size (Nat.le_trans HBc.out.size hbx.size)) (by omega) (by omega)
              have hbE : Below wb.heap.size wb w6 := (below_call (below_call HBb.out HBc.out) hbx).trans (Gr.below hOb hg6 (Nat.le_trans HBb.out.size (Nat.le_trans HBc.out.size hbx.size)))
              have hlt : ∀ j, Blk a j → j < wc.heap.size := HO.out.lt
              have hge : ∀ j, Blk a4 j → wc.heap.size ≤ j := fun j hj => (own_block HO4.out j (Blk.of.2 hj)).1
              have hlt4 : ∀ j, Blk a4 j → j < wr.heap.size := fun j hj => (own_block HO4.out j (Blk.of.2 hj)).2
              have hnew : ∀ j v, (L ++ [.slice a4 (n + 40) cap4])[j]? = some v → ∃ b c, v = .slice b (n + 40) c ∧ Rd w6 b (n + 40) (List.replicate (n + 40) (mrk j)) ∧ ∀ i, Blk b i → ¬ Blk a6 i := by
                intro j v hv
                have hL := HO.out.len
                rcases Nat.lt_or_ge j k with h3 | h3
                · rw [List.getElem?_append_left (by omega)] at hv
                  obtain ⟨b, c, e, hrd, hnb⟩ := HL.out j v hv
                  refine ⟨b, c, e, ((hrd.later HBc.out).later hbx).but hg6.but hnb, fun i hi hi2 => ?_⟩
                  rcases hg6.on i hi2 with h4 | h4
                  · exact hnb i hi h4
                  · obtain ⟨bb, oo, eb, hcel⟩ := hrd.at_ (by omega)
                    subst eb
                    obtain ⟨y, ey, rfl⟩ := hi
                    cases ey
                    have h5 := World.block_lt_of_cell? _ _ (hcel 0 (mrk j) (by rw [List.getElem?_replicate, if_pos (by omega)])).c0
                    have h6 := HBc.out.size
                    have h7 := hbx.size
                    simp only at h4 h5
                    omega
                · have hj : j = k := by
                    have := (List.getElem?_eq_some_iff.1 hv).1
                    simp at this
                    omega
                  subst hj
                  rw [List.getElem?_append_right (by omega)] at hv
                  have e0 : j - L.length = 0 := by omega
                  rw [e0] at hv
                  simp at hv
                  subst hv
                  refine ⟨a4, cap4, rfl, ((rd_of HO4.out).later hbx).but hg6.but (fun i hi hi2 => ?_), fun i hi hi2 => ?_⟩
                  · have := hlt i hi2
                    have := hge i hi
                    omega
                  · rcases hg6.on i hi2 with h4 | h4
                    · have := hlt i h4
                      have := hge i hi
                      omega
                    · have := hlt4 i hi
                      have := hbx.size
                      omega
              have HR6 := hid hr6
              have HO6 := hid ho6
              have HBE := hid hbE
              have HNW := hid hnew
              clear hr6 ho6 hbE hnew hlt hge hlt4 hOb hg6 hbx
              go_wp2_with (first | (at_builtin; refine wpList_append_known rfl _ _ 51 rfl _ _ rfl rfl _ w6 HR6.out ?_))
              exact ⟨⟨k + 1, a6, cap6, _, by omega, by go_num, rfl, HO6.out, HBE.out, HNW.out⟩, by simp [intOf]; omega⟩
        · obtain rfl : k = 2 := by omega
          have HRw := hid HO.out.read
          go_upto_region 19 with fail
          obtain ⟨wd, hwd⟩ : ∃ wd, wd = wr := ⟨_, rfl⟩
          rw [← hwd] at HRw HBb HL HO ⊢
          clear hwd
          simp only [Int.cast_ofNat_Int]
          have HMd := hid (HM.out.later HBb.out)
          go_loopw [9] (W5Rel wd) (fun t _ => 2 - (intOf t).toNat)
          case atStart => exact ⟨0, by omega, rfl, rfl⟩
          case round =>
            obtain ⟨k, hk, rfl, rfl⟩ := hrel
            by_cases hk2 : k < 2
            · have hwr : IntKind.i64.wrap (-1 - (k : Int)) = -1 - (k : Int) := by rw [IntKind.wrap_i64]; omega
              obtain ⟨v, hv⟩ : ∃ v, L[k]? = some v := ⟨_, List.getElem?_eq_getElem (by rw [HRw.out.len]; exact hk2)⟩
              obtain ⟨bx, cx, rfl, hrd, _⟩ := HL.out k v hv
              obtain ⟨ba, oa, rfl, hcl⟩ := HRw.out.plain (by omega)
              have xl := hcl k _ hv
              obtain ⟨bb, oo, rfl, hcel⟩ := hrd.at_ (by omega)
              have HCEL := hid hcel
              have xa := HMd.out.c k hk2
              clear hv hrd hcl hcel
              go_upto_region 22 with fail
              go_loopw [10] (W6Rel wr n) (fun t _ => n + 40 - (intOf t).toNat)
              case atStart => exact ⟨0, Nat.zero_le _, rfl, rfl⟩
              case round =>
                obtain ⟨i, hi, rfl, rfl⟩ := hrel
                by_cases hin : i < n + 40
                · have e0 := (HCEL.out i (mrk k) (by rw [List.getElem?_replicate, if_pos hin])).c0
                  have hm1 : (mrk k).1 = -1 - (k : Int) := rfl
                  rw [hm1] at e0
                  have hini : (i : Int) < (n : Int) + 40 := by omega
                  by_cases hi2 : i < n
                  · have f0 := ((HMd.out.ca k hk2).at_ i (mrk k) (by rw [HF.out k hk2 hk2, List.getElem?_replicate, if_pos hi2])).c0
                    rw [hm1] at f0
                    clear hm1
                    go_wp2
                    exact ⟨⟨i + 1, by omega, by go_num, rfl⟩, by simp [intOf]; omega⟩
                  · clear hm1
                    go_wp2
                    exact ⟨⟨i + 1, by omega, by go_num, rfl⟩, by simp [intOf]; omega⟩
                · have hini : ¬ (i : Int) < (n : Int) + 40 := by omega
                  go_wp2
                  exact ⟨⟨k + 1, by omega, by go_num, rfl⟩, by simp [intOf]; omega⟩
            · go_wp2
              go_ret
              exact ⟨rfl, HB.out.call HBb.out⟩
end Go.Proofs.Ytdkadmnhfnilkaa
