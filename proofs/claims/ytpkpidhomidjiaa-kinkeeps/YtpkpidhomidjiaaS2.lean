import Derived.Test.YtpkpidhomidjiaaR3
namespace Go.Proofs.Ytpkpidhomidjiaa
open Go.RowKit
set_option linter.unusedVariables false

theorem ints_set (L : List Int) (j : Nat) (v : Int) : (ints L).set j (.int .i64 v) = ints (L.set j v) := by simp [ints, List.map_set]
theorem Own.set {w : World} {base g n c j : Nat} {L : List Int} {v : Int} (h : Own w base 3 (some ⟨g, 0, none⟩) n c (ints L)) : Own (w.setCell ⟨g, j, none⟩ (.int .i64 v)) base 3 (some ⟨g, 0, none⟩) n c (ints (L.set j v)) :=
  ⟨by rw [← ints_set]; exact (h.row.stored j _).1, ints_one _⟩
theorem Own.form {w : World} {base : Nat} {e : TypeId} {a : Option Addr} {n cap : Nat} {L : List Value} (h : Own w base e a n cap L) (hn : 0 < n) : ∃ g, a = some ⟨g, 0, none⟩ := by
  rcases h.row.2 with ⟨_, h1⟩ | ⟨g, c, cur, hv, _⟩
  · omega
  · simp only [Value.slice.injEq] at hv
    exact ⟨g, hv.1⟩
/-- Both forests. -/
structure Duo (w : World) (g gb r hb m : Nat) (l : Fo) : Prop where
  ki : Ki w g gb m l
  re : Re w r hb m l
  gb : gb < hb
  g : g < hb
  hb : hb ≤ w.heap.size
theorem Duo.later {w w' : World} {g gb r hb m : Nat} {l : Fo} (h : Duo w g gb r hb m l) (h0 : Below w.heap.size w w') : Duo w' g gb r hb m l :=
  ⟨h.ki.later h0, h.re.later h0, h.gb, h.g, Nat.le_trans h.hb h0.size⟩
theorem parV_form (l : Fo) (n : Int) : ∃ (p : Int) (o : Bool), parV l n = .tuple #[.int .i64 p, .bool o] := by
  unfold parV
  split
  · exact ⟨_, _, rfl⟩
  · exact ⟨_, _, rfl⟩
def ToldRel (w : World) (a : Option Addr) (n c : Nat) (t : Value) (w' : World) : Prop :=
  ∃ (i : Nat) (A : List Int), i ≤ n ∧ t = .int .i64 (i : Int) ∧ Own w' w.heap.size 3 a n c (ints A) ∧ Below w.heap.size w w'
set_option maxRecDepth 100000 in
set_option maxHeartbeats 1000000 in
theorem told_any {w : World} {g gb r hb m : Nat} {l : Fo} (h : Duo w g gb r hb m l) (n : Int) :
    Calls Try.prog 19 #[.pointer (some ⟨g, 0, none⟩), .pointer (some ⟨r, 0, none⟩), .int .i64 n] w fun e w' => e = .returned (.bool true) ∧ Below w.heap.size w w' := by
  have hp := parent_any h.ki n
  have hq := rparent_any h.re n
  obtain ⟨P, O, hPO⟩ := parV_form l n
  rw [hPO] at hp hq
  have HC := hid (children_any h.ki n)
  have hH := hid (fun (W : World) (hW : Below w.heap.size w W) => has_any (h.ki.later hW) n)
  have hRH := hid (fun (W : World) (hW : Below w.heap.size w W) => rhas_any (h.re.later hW) n)
  have hRC := hid (fun (W : World) (hW : Below w.heap.size w W) => rchildren_any (h.re.later hW) n)
  have hkl := kids_len h.ki.ok n
  have hbig := h.ki.big
  clear h hPO
  generalize decide (n ∈ nums l) = d at *
  generalize kids l n = A at *
  go_enter Try.func19, Try.ntmps19
  go_upto_region 6 with (first | (go_at_call 10; refine hp.mono ?_; rintro e wA ⟨rfl, rfl⟩) | (go_at_call 30; refine hq.mono ?_; rintro e wA ⟨rfl, rfl⟩) | (go_at_call 12; refine HC.out.mono ?_; rintro e w3 ⟨a3, n3, c3, rfl, hO3, hb3⟩; have hl3 := hO3.len; rw [ints_length] at hl3; have HO3 := hid hO3; have HB3 := hid hb3; clear hO3 hb3 hp hq) | (go_at_call 11; refine (hH.out _ HB3.out).mono ?_; rintro e wB ⟨rfl, rfl⟩) | (go_at_call 31; refine (hRH.out _ HB3.out).mono ?_; rintro e wB ⟨rfl, rfl⟩) | (go_at_call 32; refine (hRC.out _ HB3.out).mono ?_; rintro e w4 ⟨a4, n4, c4, rfl, hO4, hb4⟩; have HR4 := hid hO4.read; have HO4 := hid (HO3.out.later hb4); have HB4 := hid (below_call HB3.out hb4); clear hO4 hb4) | (go_at_call 16; refine (numbers_same _ _ _ _ _ _ A _ HO4.out.read HR4.out (by omega)).mono ?_; rintro e w5 ⟨rfl, q5, rfl⟩; have HO5 := hid (HO4.out.later (below_drewN (Below.refl _ _) q5)); have HB5 := hid (below_call HB4.out (below_drewN (Below.refl _ _) q5))))
  clear HC hH hRH hRC HO3 HB3 HO4 HB4 HR4
  go_loopw [13] (ToldRel wA a3 n3 c3) (fun t _ => n3 - (intOf t).toNat)
  case atStart => exact ⟨0, A, Nat.zero_le _, rfl, HO5.out, HB5.out⟩
  case round =>
    clear HO5 HB5
    obtain ⟨i, B, hi, rfl, hO, hB⟩ := hrel
    have hlB := hO.len
    rw [ints_length] at hlB
    by_cases hlt : i < n3
    · obtain ⟨g3, rfl⟩ := hO.form (by omega)
      obtain ⟨g4, e4, hL⟩ := hO.lies rfl (ints_get B i (by omega))
      cases e4
      have y1 := hL.1
      have y2 := hL.2
      have HO2 := hid (hO.set (j := i) (v := -9))
      have HB2 := hid (But.below hB ((But.refl (· = g3) _).setCell (p := ⟨g3, i, none⟩) (show g3 = g3 from rfl) (.int .i64 (-9))) (fun k hk => by rw [hk]; exact hO.blk g3 ⟨_, rfl, rfl⟩))
      clear hO hB hL
      go_wp2
      go_roundw
      case rel => exact ⟨i + 1, B.set i (-9), by omega, by go_num, HO2.out, HB2.out⟩
      case measure => simp [intOf]; omega
    · obtain rfl : i = n3 := by omega
      have HB := hid hB
      clear hO hB
      go_wp2
      go_ret
      exact ⟨rfl, HB.out⟩
/-- One step of both. -/
theorem Duo.did {w w1 : World} {g gb r hb m : Nat} {c : Int} {l l2 : Fo} {e : Ending} (h : Duo w g gb r hb m l) (hD : Did w g gb m c l2 e w1) : Re w1 r hb m l ∧ hb ≤ w1.heap.size :=
  ⟨h.re.but hD.2.2 (fun k hk => by rw [hk]; exact h.gb), Nat.le_trans h.hb hD.2.2.size⟩
theorem Duo.dd {w w1 : World} {g gb r hb m : Nat} {c : Int} {l l2 : Fo} {e : Ending} (h1 : gb < hb) (h2 : g < hb) (h3 : hb ≤ w.heap.size) (hK : Ki w g gb m l2) (hR : Re w r hb m l) (hD : Dd w r hb m c l2 e w1) : Duo w1 g gb r hb m l2 :=
  ⟨hK.but hD.2.2 (fun h => by have := (hR.rb h).1; omega) (fun h => by have := (hR.rb h).1; omega), hD.2.1, h1, h2, Nat.le_trans h3 hD.2.2.size⟩
end Go.Proofs.Ytpkpidhomidjiaa
