import Derived.Test.YtfeilkhlapnpoaaM2
namespace Go.Proofs.Ytfeilkhlapnpoaa
open Go.RowKit Go.Maps
set_option linter.unusedVariables false

theorem wf_of {x : Int} (h1 : -9223372036854775808 ≤ x) (h2 : x ≤ 9223372036854775807) : (Lit.int .i64 x).wf = true := WalkArith.wf_i64 (by omega)
theorem nu_inj {x y : Int} (h : nu x = nu y) : x = y := by simpa [nu] using h
set_option maxRecDepth 100000 in
set_option maxHeartbeats 1000000 in
theorem of_any {w : World} {g b : Nat} {e a : Int} {L : List Int} (h : Qu w g b e a L) (x : Int) (hx : (Lit.int .i64 x).wf = true) :
    Calls Try.prog 8 #[.pointer (some ⟨g, 0, none⟩), .int .i64 x] w fun r w' => r = .returned (.int .i64 (L.count x : Int)) ∧ w' = w := by
  obtain ⟨c0, c1, c2, ⟨D, hown, hcn⟩, hsz⟩ := h
  have HC := hid hcn
  clear hcn hsz
  go_enter Try.func8, Try.ntmps8
  go_wp2_with (first | (at_lookup; refine wpList_lookup_own_int _ rfl _ _ 48 rfl 3 3 .i64 law Try.underlying48 Try.underlying3 (zeroE _) b _ _ rfl hown _ _ rfl (keyOf_int_mk Try.underlying3 hx) ?_; intro c hat hwc; have HA := hid hat; clear hat))
  go_ret
  refine ⟨ret_int ?_, rfl⟩
  have h1 := HA.out
  rw [HC.out.at_ x] at h1
  exact (nu_inj h1).symm
/-- How far All has come. -/
def AllRel (w : World) (b : Nat) (L : List Int) (D : DataW Unit) (s : Value) (w' : World) : Prop :=
  ∃ left cnt zs, s = .int .i64 (csum L zs : Int) ∧ w'.ranges Try.prog 3 (plainElem Try.prog 3) b w.heap.size L.length D left cnt ∧ Coll D left zs ∧ Below w.heap.size w w'
set_option maxRecDepth 100000 in
set_option maxHeartbeats 1000000 in
theorem all_any {w : World} {g b : Nat} {e a : Int} {L : List Int} (h : Qu w g b e a L) :
    Calls Try.prog 9 #[.pointer (some ⟨g, 0, none⟩)] w fun r w' => r = .returned (.int .i64 (L.length : Int)) ∧ Below w.heap.size w w' := by
  obtain ⟨c0, c1, c2, ⟨D, hown, hcn⟩, hsz⟩ := h
  have HC := hid hcn
  have hll := hsz.len
  have ha2 := hsz.a2
  clear hcn hsz
  go_enter Try.func9, Try.ntmps9
  go_upto_region 3 with (first | (at_range; refine wpList_range_own _ rfl _ 48 rfl 3 3 law Try.underlying48 _ b _ _ rfl hown ?_; intro w0 hrg0 hg0 hs0; clear hs0))
  go_frame
  go_loopw [3] (AllRel w b L D) (fun _ wr => wr.rangeLeft b w.heap.size)
  case atStart => exact ⟨_, _, [], rfl, hrg0, Coll.start D, below_grown (Below.refl _ _) hg0 (fun k hk => by cases hk)⟩
  case round =>
    clear hrg0 hg0
    obtain ⟨left, cnt, zs, rfl, hrg, hcoll, hbel⟩ := hrel
    have HO := hid hcoll
    have HB := hid hbel
    have HS := hid (csum_le (L := L) hcoll.1)
    clear hcoll hbel
    go_wp2_with (first | (at_next; refine wpList_next_ranges_ii _ rfl _ rfl 3 3 .i64 .i64 law Try.underlying3 Try.underlying3 b w.heap.size _ _ _ _ rfl hrg ?_ ?_))
    · intro _ hl0
      have HL := hid hl0
      clear hl0
      go_wp2
      go_ret
      refine ⟨ret_int ?_, HB.out⟩
      have h1 := csum_all (L := L) HO.out.1 (fun x hx => (HO.out.all HC.out HL.out x).2 hx)
      rw [h1]
    · intro x c w1 cnt1 hwx hwc hlx hat hrg1 hlt hg1 hs1 hen
      have hcx : c = (L.count x : Int) := by
        have h1 := hat (nu 0)
        rw [HC.out.at_ x] at h1
        exact (nu_inj h1).symm
      have hO1 := HO.out.step hlx hat
      have HS1 := hid (csum_le (L := L) hO1.1)
      have hsn := csum_snoc L zs x
      have hm : w1.rangeLeft b w.heap.size < wr.rangeLeft b w.heap.size := by rw [hrg1.left_eq, hrg.left_eq]; exact hlt
      have HN : Hid (AllRel w b L D (.int .i64 ((csum L zs : Int) + c)) w1) := ⟨_, _, zs ++ [x], by rw [hsn, hcx]; rfl, hrg1, hO1, HB.out.grown hg1 HB.out.size (fun k hk => by cases hk; exact Nat.le_refl _)⟩
      have hw : wrap64 ((csum L zs : Int) + c) = (csum L zs : Int) + c := by
        have := HS1.out
        rw [hsn] at this
        unfold wrap64; omega
      clear hs1 hat hO1 hrg hrg1 hg1 hlt hlx hsn hcx
      go_wp2
      refine ⟨?_, hm⟩
      rw [hw]
      exact HN.out
end Go.Proofs.Ytfeilkhlapnpoaa
