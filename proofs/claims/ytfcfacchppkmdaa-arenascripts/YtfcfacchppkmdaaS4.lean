import Derived.Test.YtfcfacchppkmdaaS3
namespace Go.Proofs.Ytfcfacchppkmdaa
open Go.RowKit
set_option linter.unusedVariables false
set_option linter.unusedSimpArgs false

/-- How a Give ends. -/
def GivesTo (n : Nat) (t : Nat → Bool) (B : Nat → Nat → Nat) (l : List Int) (E : Int) (t' : Nat → Bool) (B' : Nat → Nat → Nat) : Prop :=
  (gOk n t l ∧ E = 0 ∧ t' = gT t l ∧ B' = gB B l) ∨ (¬ gOk n t l ∧ E = 20 ∧ t' = t ∧ B' = B)
theorem gives_to (n : Nat) (t : Nat → Bool) (B : Nat → Nat → Nat) (l : List Int) : ∃ E t' B', GivesTo n t B l E t' B' := by
  by_cases h : gOk n t l
  · exact ⟨_, _, _, .inl ⟨h, rfl, rfl, rfl⟩⟩
  · exact ⟨_, _, _, .inr ⟨h, rfl, rfl, rfl⟩⟩
theorem give_code (g pb n : Nat) (t : Nat → Bool) (B : Nat → Nat → Nat) (a : Option Addr) (m cap : Nat) (l : List Int) (E : Int) (t' : Nat → Bool) (B' : Nat → Nat → Nat) (w : World) (h : Arn w g pb n t B) (hR : Row w a m cap (ints l)) (hm63 : m < 9223372036854775807) (hap : ∀ k, Blk a k → k ≠ pb) (hE : GivesTo n t B l E t' B') :
    Calls Try.prog 13 #[.pointer (some ⟨g, 0, none⟩), .slice a m cap] w fun e w' => e = .returned (.int .i64 E) ∧ Arn w' g pb n t' B' ∧ But (fun k => k = g ∨ k = pb) w w' := by
  rcases hE with ⟨h1, rfl, rfl, rfl⟩ | ⟨h1, rfl, rfl, rfl⟩
  · exact give_ok g pb n t B a m cap l w h hR hm63 hap h1
  · refine (give_no g pb n t' B' a m cap l w h hR hm63 hap h1).mono ?_
    rintro e w' ⟨rfl, hb⟩
    exact ⟨rfl, h.later hb, But.of hb⟩
theorem rgive_code (r rb n : Nat) (t : Nat → Bool) (B C : Nat → Nat → Nat) (a : Option Addr) (m cap : Nat) (l : List Int) (E : Int) (t' : Nat → Bool) (B' : Nat → Nat → Nat) (w : World) (h : Ref w r rb n t C) (hR : Row w a m cap (ints l)) (hm63 : m < 9223372036854775807) (hap : 0 < m → ∀ k, Blk a k → k ≠ rb) (hE : GivesTo n t B l E t' B') :
    Calls Try.prog 30 #[.pointer (some ⟨r, 0, none⟩), .slice a m cap] w fun e w' => e = .returned (.int .i64 E) ∧ Ref w' r rb n t' C ∧ But (· = rb) w w' := by
  refine (rgive_any r rb n t C a m cap l w h hR hm63 hap).mono ?_
  rintro e w' (⟨h0, h1, h2, h3⟩ | ⟨h0, h1, h2⟩)
  · rcases hE with ⟨_, rfl, rfl, rfl⟩ | ⟨h4, _⟩
    · exact ⟨h1, h2, h3⟩
    · exact absurd h0 h4
  · rcases hE with ⟨h4, _⟩ | ⟨_, rfl, rfl, rfl⟩
    · exact absurd h4 h0
    · exact ⟨h1, h.later h2, But.of h2⟩
theorem GivesTo.same {n : Nat} {t : Nat → Bool} {B C : Nat → Nat → Nat} {l : List Int} {E : Int} {t' : Nat → Bool} {B' : Nat → Nat → Nat} (hE : GivesTo n t B l E t' B') (h : ∀ i j, t i = true → j < 64 → C i j = B i j) : ∀ i j, t' i = true → j < 64 → C i j = B' i j := by
  rcases hE with ⟨_, _, rfl, rfl⟩ | ⟨_, _, rfl, rfl⟩
  · intro i j hi hj
    simp only [gT, Bool.and_eq_true, Bool.not_eq_true', decide_eq_false_iff_not] at hi
    unfold gB
    rw [if_neg hi.2]
    exact h i j hi.1 hj
  · exact h
set_option maxRecDepth 100000 in
set_option maxHeartbeats 2000000 in
theorem step_2 (g pb r rb n : Nat) (t : Nat → Bool) (B C : Nat → Nat → Nat) (o : Ops) (w : World) (h : Duo w g pb r rb n t B C) (hO : OpOk w g pb r rb o) (hk : o.kd = 2) :
    Calls Try.prog 20 #[.pointer (some ⟨g, 0, none⟩), .pointer (some ⟨r, 0, none⟩), .agg (opCells o)] w fun e w' => e = .returned (.bool true) ∧ Left g pb r rb n w w' := by
  obtain ⟨X, hX⟩ : ∃ X, X = opCells o := ⟨_, rfl⟩
  have hbx := Bx.new w o
  rw [← hX] at hbx ⊢
  have k1 : (o.kd == 1) = false := by simp [hk]
  have k2 : (o.kd == 2) = true := by simp [hk]
  have hB1 : Below w.heap.size w (w.alloc (.cells X 51)) := below1 _ _
  have H := hid (h.later hB1)
  have HL := hid h.lt
  have HX := hid hbx
  have HB := hid hB1
  have x0 := hbx.c0
  have x4 := hbx.c4
  have HRL := hid (hO.rl.later hB1)
  have HAL := hid hO.al
  have hbig := hO.hl
  have HBN : Hid (¬ Ours g pb r rb w.heap.size) := hid (lt_of_ours h)
  clear h hX hbx hB1 hk hO
  obtain ⟨la, hla⟩ : ∃ la, la = o.la := ⟨_, rfl⟩
  obtain ⟨ml, hml⟩ : ∃ ml, ml = o.ml := ⟨_, rfl⟩
  obtain ⟨cl, hcl⟩ : ∃ cl, cl = o.cl := ⟨_, rfl⟩
  obtain ⟨l, hl⟩ : ∃ l, l = o.l := ⟨_, rfl⟩
  rw [← hla, ← hml, ← hcl] at x4 HRL
  rw [← hl] at HRL
  rw [← hla, ← hml] at HAL
  rw [← hml] at hbig
  clear hla hml hcl hl
  obtain ⟨E, t', B', hE⟩ := gives_to n t B l
  have HE := hid hE
  have hll : l.length = ml := by have := HRL.out.len; rwa [ints_length] at this
  clear hE
  go_enter Try.func20, Try.ntmps20
  go_upto_region 12 with fail
  generalize w.alloc (.cells X 51) = w1 at H HX HB x0 x4 HRL ⊢
  have HWL : Hid (w.heap.size < w1.heap.size) := hid (World.block_lt_of_cell? _ _ x0)
  go_upto_region 13 with (first
    | (go_at_call 29; refine (copied_any la ml cl l _ HRL.out (by omega)).mono ?_; rintro e w2 ⟨ac, cc, rfl, O2, b2⟩)
    | (go_at_call 26; refine (grown_any w1.heap.size ac ml cc l 77 _ (.inl O2) b2.size (by omega)).mono ?_; rintro e w3 ⟨am, cm, rfl, O3, G3⟩))
  have hB13 : Below w1.heap.size w1 w3 := b2.trans (G3.below O2 b2.size)
  obtain ⟨mb, rfl⟩ : ∃ mb, am = some ⟨mb, 0, none⟩ := by
    rcases O3.row.2 with ⟨_, h0⟩ | ⟨gb, c, cur, hv, _⟩
    · omega
    · simp only [Value.slice.injEq] at hv
      exact ⟨gb, hv.1⟩
  have hmb : w1.heap.size ≤ mb := O3.blk mb ⟨_, rfl, rfl⟩
  have hcm : ml + 80 ≤ cm := O3.read.cap_
  replace H := hid (H.out.later hB13)
  replace HB := hid (below_call HB.out hB13)
  replace x4 := cell_later hB13 x4
  replace HRL := hid (HRL.out.later hB13)
  have HO3 := hid O3
  have HMB : Hid (¬ Ours g pb r rb mb) := hid (fun e => by have := HL.out _ e; have := HWL.out; omega)
  have HRM : Hid (Row w3 (some ⟨mb, 0, none⟩) ml cm (ints l)) := hid (by
    have := O3.read.sub (m := ml) (c := cm) (by omega) (by omega) (fun e => by cases e)
    rwa [ints_append, List.take_left' (by rw [ints_length]; exact hll)] at this)
  have hc1 : (ml : Int) ≤ (cm : Int) := by omega
  clear b2 G3 O2 O3 hB13
  go_upto_region 14 with (first | (go_at_call 13; refine (give_code g pb n t B _ ml cm l E t' B' _ H.out.p HRM.out (by omega) (fun k hk e => HMB.out (.inr (.inl (by rw [← blk_at hk]; exact e)))) HE.out).mono ?_; rintro e w4 ⟨rfl, A4, b4⟩))
  have HQ4 := hid (H.out.q.but b4 (fun e => by rcases e with e | e; exact H.out.ap.1 e.symm; exact H.out.ap.2.2.1 e.symm) (fun e => by rcases e with e | e; exact H.out.ap.2.1 e.symm; exact H.out.ap.2.2.2 e.symm))
  have hOu4 : ∀ k, (k = g ∨ k = pb) → Ours g pb r rb k := fun k hk => by rcases hk with e | e; exact .inl e; exact .inr (.inl e)
  replace x4 := cell_but b4 x4 (fun e => HBN.out (hOu4 _ e))
  replace HRL := hid (HRL.out.but0 b4 (fun h0 k hk e => HAL.out h0 k hk (hOu4 _ e)))
  replace HO3 := hid (HO3.out.but b4 (fun k hk e => HMB.out (by rw [← blk_at hk]; exact hOu4 _ e)))
  have HBt : Hid (But (Ours g pb r rb) w w4) := hid ((But.of HB.out).trans (b4.mono hOu4))
  have HA4 := hid A4
  clear A4 b4 hOu4 HRM
  go_upto_region 15 with (first | (go_at_call 30; refine (rgive_code r rb n t B C la ml cl l E t' B' _ HQ4.out HRL.out (by omega) (fun h0 k hk e => HAL.out h0 k hk (.inr (.inr (.inr e)))) HE.out).mono ?_; rintro e w5 ⟨rfl, A5, b5⟩))
  have HD : Hid (Duo w5 g pb r rb n t' B' C) := hid ⟨HA4.out.but b5 H.out.ap.2.1 H.out.ap.2.2.2, A5, HE.out.same H.out.same, H.out.ap⟩
  have hOu5 : ∀ k, k = rb → Ours g pb r rb k := fun k hk => .inr (.inr (.inr hk))
  replace x4 := cell_but b5 x4 (fun e => HBN.out (hOu5 _ e))
  replace HRL := hid (HRL.out.but0 b5 (fun h0 k hk e => HAL.out h0 k hk (hOu5 _ e)))
  replace HO3 := hid (HO3.out.but b5 (fun k hk e => HMB.out (by rw [← blk_at hk]; exact hOu5 _ e)))
  replace HBt := hid (HBt.out.trans (b5.mono hOu5))
  clear A5 b5 hOu5 HA4 HQ4 H HE
  go_upto_region 16 with (first
    | (go_at_call 8; refine (num_any _ _).mono ?_; rintro e w6 ⟨rfl, hw⟩; obtain rfl := hw.symm)
    | (go_at_call 29; refine (copied_any la ml cl l _ HRL.out (by omega)).mono ?_; rintro e w7 ⟨ac2, cc2, rfl, O7, b7⟩)
    | (go_at_call 26; refine (grown_any w5.heap.size ac2 ml cc2 l 77 _ (.inl O7) b7.size (by omega)).mono ?_; rintro e w8 ⟨am2, cm2, rfl, O8, G8⟩; have hB58 := hid (b7.trans (G8.below O7 b7.size)))
    | (go_at_call 17; refine (numbers_eq _ _ _ _ _ _ (l ++ List.replicate 80 77) _ (HO3.out.later hB58.out).read O8.read (by omega)).mono ?_; rintro e w9 ⟨rfl, b9⟩; have hB59 := hid (below_call hB58.out b9)))
  replace HD := hid (HD.out.later hB59.out)
  replace HO3 := hid (HO3.out.later hB59.out)
  replace HBt := hid (HBt.out.call hB59.out)
  have HSP := hid HO3.out.ans.spot
  clear hB59 b9 hB58 O7 O8 G8 b7 HO3 HRL x4 x0
  go_upto_region 17 with fail
  go_loopw [17] (OvRel w9 mb 0 (ml + 80)) (fun k _ => ml + 80 - (intOf k).toNat)
  case atStart => exact ⟨0, rfl, Nat.zero_le _, HSP.out, But.refl _ _⟩
  case round =>
    obtain ⟨i, rfl, hi, hS, hB⟩ := hrel
    have HS := hid hS
    have HBi := hid hB
    clear hS hB
    by_cases hlt : i < ml + 80
    · have hd : decide ((i : Int) < ((ml + 80 : Nat) : Int)) = true := decide_eq_true (by omega)
      obtain ⟨v, hv⟩ := HS.out i hlt
      have HS2 := hid (HS.out.put (u := .int .i64 0) hlt)
      have HB2 := hid (HBi.out.setCell (p := ⟨mb, 0 + i, none⟩) (show mb = mb from rfl) (.int .i64 0))
      rw [Nat.zero_add] at HS2 HB2 hv
      have v1 := hv.1
      have v2 := hv.2
      clear hv
      go_wp2
      exact ⟨⟨i + 1, rfl, by omega, HS2.out, HB2.out⟩, by simp [intOf]; omega⟩
    · obtain rfl : ml + 80 = i := by omega
      have HD2 := hid (HD.out.but HBi.out (fun k hk e => HMB.out (by rw [← e]; exact hk)))
      have HB2 := hid (HBt.out.comp HBi.out (fun k hk => .inr (by have := HWL.out; omega)))
      have hd : decide (((ml + 80 : Nat) : Int) < ((ml + 80 : Nat) : Int)) = false := by simp
      go_wp2
      go_ret
      exact ⟨rfl, ⟨_, _, _, HD2.out⟩, HB2.out⟩
end Go.Proofs.Ytfcfacchppkmdaa
