import Derived.Test.YtcagghfkomodlaaT1
namespace Go.Proofs.Ytcagghfkomodlaa
open Go.RowKit
set_option linter.unusedVariables false
set_option linter.unusedSimpArgs false
variable {w w' : World} {base g r : Nat} {m : Int} {pa : Option Addr} {ca : Nat} {pb : Option Addr} {cb : Nat} {K : List Cp}
set_option maxRecDepth 100000 in
set_option maxHeartbeats 4000000 in
theorem step_all (h : Duo w base g r m pa ca pb cb K) (sec : Bool) (c : Cp) (n : Int) (la : Option Addr) (ln lc : Nat) :
    Calls Try.prog 18 #[.agg #[.pointer (some ⟨g, 0, none⟩), .pointer (some ⟨r, 0, none⟩)], .agg #[.bool sec, .int .i64 3, .int .i64 c.1, .int .u64 (c.2.1 : Int), .int .u64 (c.2.2 : Int), .int .i64 n, .slice la ln lc]] w (Did w base g r m pa pb) := by
  obtain ⟨w2, hw2⟩ : ∃ w2, w2 = sxW w g r sec 3 c n la ln lc := ⟨_, rfl⟩
  have hB2 : Below w.heap.size w w2 := by rw [hw2]; exact below2 _ _ _
  have hX2 : Sx w2 w.heap.size (w.heap.size + 1) g r sec 3 c n la ln lc := by rw [hw2]; exact sx_new w g r sec 3 c n la ln lc
  have h2 := h.later hB2
  have hsz : w2.heap.size = w.heap.size + 2 := by rw [hw2]; simp
  have HT : Hid (∀ k, Two g pa r pb k → k < w.heap.size) := fun k hk => (h.blk k hk).2
  have HC : Hid (∀ U, But (Two g pa r pb) w2 U → Sx U w.heap.size (w.heap.size + 1) g r sec 3 c n la ln lc) := fun U hU => hX2.but hU (fun e => by have := HT.out _ e; omega) (fun e => by have := HT.out _ e; omega)
  have HB2 := hid hB2
  have H2 := hid h2
  have hkl := h2.kl
  have hm32 := h2.m32
  have hle := h2.le
  have s1 := hX2.s1
  clear h hB2 hX2 h2
  unfold sxW at hw2
  have HC3 : Hid (∀ U, Below w2.heap.size w2 U → (U.cell? ⟨w.heap.size, 0, none⟩ = some (.pointer (some ⟨g, 0, none⟩)) ∧ U.cell? ⟨w.heap.size, 1, none⟩ = some (.pointer (some ⟨r, 0, none⟩)) ∧ U.cell? ⟨r, 1, none⟩ = some (.slice pb K.length cb)) ∧ Below w2.heap.size w2 U) := fun U hU => by
    have hx := HC.out U (But.of hU)
    exact ⟨⟨hx.x0, hx.x1, (H2.out.q.later hU).c1.1⟩, hU⟩
  have hal := hid (all_any (H2.out.p.later (Below.refl _ _).drew) hkl)
  have hsm : Hid (∀ (U : World) (p : Option Addr) (cp : Nat), Rd U p K.length K → Below w2.heap.size w2 U → Calls Try.prog 12 #[.slice p K.length cp, .slice pb K.length cb] U fun e w' => e = .returned (.bool true) ∧ Below w2.heap.size w2 w') := fun U p cp hp hU => by
    refine (sameC_any cp cb hp (H2.out.q.later hU).rd (by omega) (by omega)).mono ?_
    rintro e w' ⟨rfl, q, rfl⟩
    exact ⟨ret_bool (by simp), below_drewN hU q⟩
  have hlen := hid (fun (U : World) (hU : Below w2.heap.size w2 U) => len_any (H2.out.p.later hU))
  have hq1 : ((K.length : Int) == (K.length : Int)) = true := by simp
  go_enter Try.func18, Try.ntmps18
  go_upto_region 1 with fail
  rw [← hw2]
  clear hw2
  go_upto_region 13 with fail
  clear s1
  go_region_held3 (fun U => (U.cell? ⟨w.heap.size, 0, none⟩ = some (.pointer (some ⟨g, 0, none⟩)) ∧ U.cell? ⟨w.heap.size, 1, none⟩ = some (.pointer (some ⟨r, 0, none⟩)) ∧ U.cell? ⟨r, 1, none⟩ = some (.slice pb K.length cb)) ∧ Below w2.heap.size w2 U) (first | exact HC3.out _ HB4.out | exact HC3.out _ HB3.out | exact HC3.out _ (Below.refl _ _).drew) (first
    | (go_at_call 13; refine hal.out.mono ?_; rintro e w3 ⟨p, cp, rfl, ho3, hb3⟩; have HP3 := hid (Ow.rd (K := K) ho3 rfl); have HB3 := hid (below_call (Below.refl w2.heap.size w2).drew hb3); clear ho3 hb3)
    | (go_at_call 12; refine (hsm.out _ _ _ HP3.out HB3.out).mono ?_; rintro e w4 ⟨rfl, hb4⟩; have HB4 := hid hb4; clear hb4)
    | (go_at_call 11; refine (hlen.out _ HB4.out).mono ?_; rintro e w9 ⟨rfl, hw9⟩; obtain rfl := hw9.symm; clear hw9))
  go_wp2
  go_ret
  exact ⟨pa, ca, pb, cb, K, rfl, H2.out.later HB4.out, Mv.refl (below_call HB2.out HB4.out)⟩
end Go.Proofs.Ytcagghfkomodlaa
