import Derived.Test.YtlelglfdamakaaaN4
namespace Go.Proofs.Ytlelglfdamakaaa
open Go.RowKit H
set_option linter.unusedVariables false
set_option linter.unusedSimpArgs false

/-! ### rights: the cache is asked, then the catalogue -/
theorem met65 (a : Addr) (w : World) : (method 286 65 (.pointer (some a)) "Get").run Try.prog w = .ok (115, .pointer (some a)) w := by kernel_rfl
theorem met124 (a : Addr) (w : World) : (method 286 124 (.agg #[.pointer (some a)]) "Get").run Try.prog w = .ok (117, .agg #[.pointer (some a)]) w := by kernel_rfl
theorem idx0 (a b : Value) (w : World) : (Instr.index 94 (.agg #[a, b]) (.int .i64 0)).run Try.prog w = .ok a w := by kernel_rfl
theorem idx1 (a b : Value) (w : World) : (Instr.index 94 (.agg #[a, b]) (.int .i64 1)).run Try.prog w = .ok b w := by kernel_rfl
variable {w w' : World} {H : Hv} {X : List Tk} {l : Fo} {T : Nat → List K.Pu}
def Kk (w : World) (H : Hv) (T : Nat → List K.Pu) : Prop := ∃ E hi mi, K.Kc w H.g H.s H.n H.k T E hi mi
def RgRel (w1 : World) (H : Hv) (T : Nat → List K.Pu) (q b : Bool) (t : Value) (w : World) : Prop :=
  ∃ i : Nat, t = .int .i64 (i : Int) ∧ i ≤ 2 ∧ (1 ≤ i → q = false) ∧ (2 ≤ i → b = false) ∧ Kk w H T ∧ But (fun k => k = H.g) w1 w
set_option maxRecDepth 100000 in
set_option maxHeartbeats 2000000 in
theorem rights_any (h : Vt w H X l) (c : Cp) (hw : c.2.1 < B64 ∧ c.2.2 < B64) :
    Calls Try.prog 34 #[.pointer (some ⟨H.v, 0, none⟩), cpV c] w fun e w' => e = .returned (.tuple #[.int .i64 (srcN X l c), .bool (hasC X l c)]) ∧ Vt w' H X l ∧ But (fun k => k = H.g) w w' := by
  obtain ⟨T, h, ht⟩ := h
  obtain ⟨o, hi, lo⟩ := c
  obtain ⟨w1, hw1⟩ : ∃ w1, w1 = w.alloc (Obj.cells #[.int .i64 o, .int .u64 (hi : Int), .int .u64 (lo : Int)] 32) := ⟨_, rfl⟩
  have hB1 : Below w.heap.size w w1 := by rw [hw1]; exact below1 _ _
  have hgl : H.g < w.heap.size := by obtain ⟨_, _, _, hk⟩ := h.ch; exact hk.lt
  have h1 := h.later hB1
  have HV := hid (fun (U : World) (hU : But (fun k => k = H.g) w1 U) => h1.va.but hU h.dis.v2)
  have HC : Hid (∀ U : World, But (fun k => k = H.g) w1 U → U.cell? ⟨w.heap.size, 0, none⟩ = some (.int .i64 o) ∧ U.cell? ⟨w.heap.size, 1, none⟩ = some (.int .u64 (hi : Int)) ∧ U.cell? ⟨w.heap.size, 2, none⟩ = some (.int .u64 (lo : Int))) := fun U hU =>
    have hne : ¬ w.heap.size = H.g := by omega
    ⟨cell_but hU (by rw [hw1]; simp [go_sem]) hne, cell_but hU (by rw [hw1]; simp [go_sem]) hne, cell_but hU (by rw [hw1]; simp [go_sem]) hne⟩
  have HK := hid (fun (U : World) (hU : But (fun k => k = H.g) w1 U) (T' : Nat → List K.Pu) (ht' : Tr X l T') (hk : Kk U H T') => (show Vt U H X l from ⟨T', h1.keep hU hk, ht'⟩))
  have HCt := hid (fun (U : World) (hU : But (fun k => k = H.g) w1 U) => tget_any (h1.cat.but hU (fun k hk e => h.dis.g1 (e ▸ hk))) (o, hi, lo) hw)
  have HT := hid ht
  have HGt : Hid ((K.getT H.s H.k T (o, hi, lo)).2 = true → (K.getT H.s H.k T (o, hi, lo)).1 = srcN X l (o, hi, lo) ∧ hasC X l (o, hi, lo) = true) := fun e => by
    obtain ⟨e1, e2⟩ := ht.get e
    exact ⟨by unfold srcN; rw [e1, e2]; rfl, e1⟩
  have HG : Hid (∀ U, Kk U H T → Calls Try.prog 115 #[.pointer (some ⟨H.g, 0, none⟩), .agg #[.int .i64 o, .int .u64 (hi : Int), .int .u64 (lo : Int)]] U fun x w' => x = .returned (.tuple #[.int .i64 (K.getT H.s H.k T (o, hi, lo)).1, .bool (K.getT H.s H.k T (o, hi, lo)).2]) ∧ Kk w' H T ∧ But (fun k => k = H.g) U w') := fun U ⟨E, h1, m1, hk⟩ => (K.kget hk (o, hi, lo) hw).mono (fun x w' hx => ⟨hx.1, ⟨_, _, _, hx.2.1⟩, hx.2.2⟩)
  have HL : Hid (∀ U, But (fun k => k = H.g) w1 U → Kk U H T → hasC X l (o, hi, lo) = true → Calls Try.prog 58 #[.pointer (some ⟨H.v, 0, none⟩), .iface 124 (.agg #[.pointer (some ⟨H.A.g, 0, none⟩)]), .agg #[.int .i64 o, .int .u64 (hi : Int), .int .u64 (lo : Int)], .int .i64 (srcN X l (o, hi, lo))] U fun x w' => x = .returned (.tuple #[]) ∧ Vt w' H X l ∧ But (fun k => k = H.g) U w') := fun U hU ⟨E, a1, m1, hk⟩ hb => by
    have hs : srcN X l (o, hi, lo) = rgt X l (o, hi, lo) := by unfold srcN; rw [hb]; rfl
    rw [hs]
    refine (learn_t (h1.va.but hU h.dis.v2) hk (o, hi, lo) (rgt X l (o, hi, lo)) hw).mono ?_
    rintro x w' ⟨rfl, hk', hb'⟩
    exact ⟨rfl, ⟨_, h1.keep (hU.trans hb') ⟨_, _, _, hk'⟩, ht.put hb⟩, hb'⟩
  have HSn : Hid (hasC X l (o, hi, lo) = false → srcN X l (o, hi, lo) = 0) := fun e => by unfold srcN; rw [e]; rfl
  have HK0 : Hid (Kk w1 H T) := h1.ch
  have v0 := (HV.out w1 (But.refl _ _)).c0
  have v1 := (HV.out w1 (But.refl _ _)).c1
  have v2 := (HV.out w1 (But.refl _ _)).c2
  have HB1 := hid hB1
  have m1 := met65
  have m2 := met124
  have i0 := fun w => idx0 (.iface 65 (.pointer (some ⟨H.g, 0, none⟩))) (.iface 124 (.agg #[.pointer (some ⟨H.A.g, 0, none⟩)])) w
  have i1 := fun w => idx1 (.iface 65 (.pointer (some ⟨H.g, 0, none⟩))) (.iface 124 (.agg #[.pointer (some ⟨H.A.g, 0, none⟩)])) w
  clear h h1 ht hw hB1 hgl
  generalize (K.getT H.s H.k T (o, hi, lo)).1 = gm at *
  generalize (K.getT H.s H.k T (o, hi, lo)).2 = gq at *
  generalize srcN X l (o, hi, lo) = sm at *
  generalize hasC X l (o, hi, lo) = sq at *
  go_enter Try.func34, Try.ntmps34
  go_upto_region 1 with fail
  rw [← hw1]
  clear hw1
  go_upto_region 2 with fail
  clear v0 v1 v2
  go_loopw [14] (RgRel w1 H T gq sq) (fun t _ => 2 - (intOf t).toNat)
  case atStart => exact ⟨0, rfl, by omega, fun e => by omega, fun e => by omega, HK0.out, But.refl _ _⟩
  case round =>
    obtain ⟨i, rfl, hi2, hg1, hg2, hk, hB⟩ := hrel
    have HB := hid hB
    have HKw := hid hk
    obtain ⟨c0, c1, c2⟩ := HC.out _ hB
    rcases Nat.lt_or_ge i 1 with hi0 | hi1
    · obtain rfl : i = 0 := by omega
      clear hg1 hg2 hk hB hi2 hi0
      simp only [Int.cast_ofNat_Int]
      cases gq with
      | true =>
        obtain ⟨rfl, rfl⟩ := HGt.out rfl
        go_upto_region 6 with (first | (go_at_call 115; refine (HG.out _ HKw.out).mono ?_; rintro e w2 ⟨rfl, hk2, hb2⟩; have HK2 := hid hk2; have HB2 := hid (HB.out.trans hb2); clear hk2 hb2))
        clear c0 c1 c2
        obtain ⟨c0, c1, c2⟩ := HC.out _ HB2.out
        go_wp2_with (first | (go_at_call 58; refine (learn_k H.v H.g (o, hi, lo) gm _).mono ?_; rintro e w3 ⟨rfl, hb3⟩; have HK3 : Hid (Vt w3 H X l) := (HK.out _ HB2.out T HT.out HK2.out).later hb3; have HB3 := hid (HB2.out.call hb3); clear hb3))
        exact bodyPost_ret (v := .tuple #[.int .i64 gm, .bool true]) (by simp [results, Try.results34, go_sem]) rfl ⟨rfl, HK3.out, (But.of (S := fun k => k = H.g) HB1.out).trans HB3.out⟩
      | false =>
        go_wp2_with (first | (go_at_call 115; refine (HG.out _ HKw.out).mono ?_; rintro e w2 ⟨rfl, hk2, hb2⟩; have HK2 := hid hk2; have HB2 := hid (HB.out.trans hb2); clear hk2 hb2))
        exact ⟨⟨1, rfl, by omega, fun _ => rfl, fun h => by omega, HK2.out, HB2.out⟩, by simp [intOf]⟩
    · have hq := hg1 hi1
      rcases Nat.lt_or_ge i 2 with hi0 | hi2'
      · obtain rfl : i = 1 := by omega
        clear hg1 hg2 hk hB hi2 hi0 hi1
        simp only [Int.cast_ofNat_Int]
        cases sq with
        | true =>
          go_upto_region 6 with (first | (go_at_call 117; refine (HCt.out _ HB.out).mono ?_; rintro e w2 ⟨rfl, hb2⟩; have HB2 := hid (HB.out.call hb2); have HK2 : Hid (Kk w2 H T) := (by obtain ⟨E, x1, x2, hk⟩ := HKw.out; exact ⟨E, x1, x2, hk.later hb2⟩); clear hb2))
          clear c0 c1 c2
          obtain ⟨c0, c1, c2⟩ := HC.out _ HB2.out
          go_wp2_with (first | (go_at_call 58; refine (HL.out _ HB2.out HK2.out (by simp)).mono ?_; rintro e w3 ⟨rfl, hv3, hb3⟩; have HV3 := hid hv3; have HB3 := hid (HB2.out.trans hb3); clear hv3 hb3))
          exact bodyPost_ret (v := .tuple #[.int .i64 sm, .bool true]) (by simp [results, Try.results34, go_sem]) rfl ⟨rfl, HV3.out, (But.of (S := fun k => k = H.g) HB1.out).trans HB3.out⟩
        | false =>
          go_wp2_with (first | (go_at_call 117; refine (HCt.out _ HB.out).mono ?_; rintro e w2 ⟨rfl, hb2⟩; have HB2 := hid (HB.out.call hb2); have HK2 : Hid (Kk w2 H T) := (by obtain ⟨E, x1, x2, hk⟩ := HKw.out; exact ⟨E, x1, x2, hk.later hb2⟩); clear hb2))
          exact ⟨⟨2, rfl, by omega, fun _ => hq, fun _ => rfl, HK2.out, HB2.out⟩, by simp [intOf]⟩
      · obtain rfl : i = 2 := by omega
        have hs := hg2 hi2'
        subst hs
        obtain rfl := HSn.out rfl
        clear hg1 hg2 hk hB hi2 hi1 hi2'
        simp only [Int.cast_ofNat_Int]
        go_wp2
        exact bodyPost_ret (v := .tuple #[.int .i64 0, .bool false]) (by simp [results, Try.results34, go_sem]) rfl ⟨rfl, HK.out _ HB.out T HT.out HKw.out, (But.of (S := fun k => k = H.g) HB1.out).trans HB.out⟩
end Go.Proofs.Ytlelglfdamakaaa
