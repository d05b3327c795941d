import Derived.Test.YtpkpidhomidjiaaF4
namespace Go.Proofs.Ytpkpidhomidjiaa
open Go.RowKit
set_option linter.unusedVariables false

def KScr (w : World) (g gb m n : Nat) (i : Value) (w' : World) : Prop := ∃ (k : Nat) (l : Fo), k ≤ n ∧ i = .int .i64 (k : Int) ∧ Ki w' g gb m l ∧ Below w.heap.size w w'
def kl (l : Fo) : Nat → List Int := fun q => kids l ((q / 4 : Nat) : Int)
def KeepRel (w0 : World) (m : Nat) (l : Fo) (vl vw t : Value) (w' : World) : Prop :=
  ∃ (k : Nat) (aL : Option Addr) (cL : Nat) (aW : Option Addr) (cW : Nat) (F : Nat → Sl), k ≤ m ∧ k ≤ 10 ∧ vl = .slice aL (2 * k) cL ∧ vw = .slice aW (2 * k) cW ∧ t = .int .i64 (k : Int) ∧ Kp w' w0.heap.size k aL cL aW cW F (kl l) ∧ Below w0.heap.size w0 w'
def KEach (w : World) (m : Nat) (i : Value) (w' : World) : Prop := ∃ (k : Nat), k ≤ m ∧ i = .int .i64 (k : Int) ∧ Below w.heap.size w w'
theorem kl_next (l : Fo) (k q : Nat) (hq : q < 4 * (k + 1)) : upd (upd (upd (upd (kl l) (4 * k) (kids l (k : Int))) (4 * k + 1) (kids l (k : Int))) (4 * k + 2) (kids l (k : Int))) (4 * k + 3) (kids l (k : Int)) q = kl l q := by
  have hm : q < 4 * k ∨ q = 4 * k ∨ q = 4 * k + 1 ∨ q = 4 * k + 2 ∨ q = 4 * k + 3 := by omega
  rcases hm with h | rfl | rfl | rfl | rfl
  · rw [upd_ne (by omega), upd_ne (by omega), upd_ne (by omega), upd_ne (by omega)]
  · rw [upd_ne (by omega), upd_ne (by omega), upd_ne (by omega), upd_eq]; unfold kl; rw [show 4 * k / 4 = k by omega]
  · rw [upd_ne (by omega), upd_ne (by omega), upd_eq]; unfold kl; rw [show (4 * k + 1) / 4 = k by omega]
  · rw [upd_ne (by omega), upd_eq]; unfold kl; rw [show (4 * k + 2) / 4 = k by omega]
  · rw [upd_eq]; unfold kl; rw [show (4 * k + 3) / 4 = k by omega]
theorem Ki.ltg {w : World} {g gb m : Nat} {l : Fo} (h : Ki w g gb m l) : g < w.heap.size := by
  obtain ⟨N, h1, _⟩ := h
  exact h1.lt
theorem Kp.apart {W : World} {base k lb cL wb cW : Nat} {F : Nat → Sl} {l : Fo} (h : Kp W base k (some ⟨lb, 0, none⟩) cL (some ⟨wb, 0, none⟩) cW F (kl l)) (hk : k ≤ 10) :
    Calls Try.prog 15 #[.slice (some ⟨lb, 0, none⟩) (2 * k) cL, .slice (some ⟨wb, 0, none⟩) (2 * k) cW] W fun e w' => e = .returned (.bool true) ∧ But (fun z => base ≤ z) W w' ∧ ∀ j, j < k → ∃ a n c, w'.cell? ⟨wb, 2 * j, none⟩ = some (.slice a n c) ∧ Row w' a n c (ints (kids l (j : Int))) ∧ n ≤ 40 := by
  have hsub := h.fam.sub (K := 2 * k) sg (fun q hq => (sg_lt hq).1) (fun q r => sg_ne)
  have hkl : ∀ q, kl l (sg q + 2) = kl l (sg q) := fun q => by unfold kl; rw [show (sg q + 2) / 4 = sg q / 4 by unfold sg; omega]
  have hlen : ∀ q, q < 2 * k → (F (sg q + 2)).2.1 = (F (sg q)).2.1 := fun q hq => by
    have e1 := h.fam.len (q := sg q) (sg_lt hq).1
    have e2 := h.fam.len (q := sg q + 2) (sg_lt hq).2
    rw [hkl] at e2
    rw [← e1, ← e2]
  have hcw : ∀ q, q < 2 * k → W.cell? ⟨wb, q, none⟩ = some (slV (F (sg q + 2))) := fun q hq => by
    have := h.ow.read.cells _ rfl q _ (outer_get (d := 2) hq)
    rwa [addr_add0] at this
  have hB := apart_any lb wb cL cW (2 * k) _ _ _ _ (fun q => (F (sg q + 2)).1) (fun q => (F (sg q + 2)).2.2) W (by omega) h.ol.read.cap_ hsub (fun q hq => by
    have := h.ol.read.cells _ rfl q _ (outer_get (d := 0) hq)
    rwa [addr_add0] at this) (fun q hq => by
    rw [hcw q hq]
    show some (Value.slice _ _ _) = _
    rw [hlen q hq]) (fun q hq => by
    have := (h.fam.own (sg q + 2) (sg_lt hq).2).read
    rw [hkl] at this
    rw [← hlen q hq]
    exact this) (hid (fun ⟨q, hq, hz⟩ => own_typ (hsub.own q hq) h.ol hz ⟨_, rfl, rfl⟩))
  refine hB.mono ?_
  rintro e w' ⟨rfl, hb⟩
  refine ⟨rfl, hb.mono (fun z hz => ?_), fun j hj => ?_⟩
  · obtain ⟨q, hq, hz⟩ := hz
    exact h.ge (sg q) (sg_lt hq).1 z hz
  · have e1 : sg (2 * j) = 4 * j := by unfold sg; omega
    have hc := hcw (2 * j) (by omega)
    rw [e1] at hc
    refine ⟨(F (4 * j + 2)).1, (F (4 * j + 2)).2.1, (F (4 * j + 2)).2.2, cell_but hb hc (fun ⟨q, hq, hz⟩ => own_typ (hsub.own q hq) h.ow hz ⟨_, rfl, rfl⟩), ?_, h.fam.small (4 * j + 2) (by omega)⟩
    have hr := (h.fam.own (4 * j + 2) (by omega)).read.but hb (fun z hz ⟨q, hq, hz'⟩ => h.fam.inj (4 * j + 2) (sg q) (by omega) (sg_lt hq).1 (by unfold sg; omega) z hz hz')
    rw [show kl l (4 * j + 2) = kids l (j : Int) by unfold kl; rw [show (4 * j + 2) / 4 = j by omega]] at hr
    exact hr
set_option maxRecDepth 100000 in
set_option maxHeartbeats 1600000 in
theorem keeps_law (x0 : Int) (a : Option Addr) (n cap : Nat) (f : Nat → Op3) (w : World) (hS : Ss w a n f) (hn : n ≤ 9223372036854775807) :
    Calls Try.prog 4 #[.int .i64 x0, .slice a n cap] w fun e w' => e = .returned (.bool true) ∧ Below w.heap.size w w' := by
  have HS := hid hS
  clear hS
  obtain ⟨m, hm1, hm2, hm3, t1, t2⟩ := rest30 x0
  go_enter Try.func4, Try.ntmps4
  go_upto_region 2 with fail
  clear hm3 t1 t2
  go_upto_region 6 with (first | (go_at_call 6; refine (new_ok _ m (by omega)).mono ?_; rintro e w1 ⟨g, gb, rfl, hK1, hg, hgb, hB1⟩; have HK1 := hid hK1; have HB1 := hid hB1; clear hK1 hB1) | (go_at_call 7; refine (num_any _ _).mono ?_; rintro e w9 ⟨rfl, rfl⟩) | (go_at_call 8; refine (alive_any _).mono ?_; rintro e w2 ⟨rfl, hb2⟩; have HK2 := hid (HK1.out.later hb2); have HB2 := hid (below_call HB1.out hb2); clear hb2 HK1 HB1))
  go_loopw [8] (KScr w g gb m n) (fun i _ => n - (intOf i).toNat)
  case atStart => exact ⟨0, [], Nat.zero_le _, rfl, HK2.out, HB2.out⟩
  case round =>
    clear HK2 HB2
    obtain ⟨i, l, hi, rfl, hK, hB⟩ := hrel
    have HK := hid hK
    have HB := hid hB
    clear hK hB
    by_cases hlt : i < n
    · obtain ⟨b, o, rfl, hc⟩ := HS.out (by omega)
      have hs := (hc i hlt).later HB.out
      have c0 := hs.c0
      have c1 := hs.c1
      have c2 := hs.c2
      clear hs hc
      generalize f i = s at c0 c1 c2
      obtain ⟨kd, pp, kk⟩ := s
      simp only at c0 c1 c2
      have hd := hid (does_any HK.out kd pp kk)
      go_wp2_with (first | (go_at_call 9; refine hd.out.mono ?_; rintro e w3 ⟨rfl, hK3, hB3⟩; have HK3 := hid hK3; have HB3 := hid (But.below HB.out hB3 (fun k hk => by rw [hk]; exact hgb)); clear hK3 hB3))
      go_roundw
      case rel => exact ⟨i + 1, _, by omega, by go_num, HK3.out, HB3.out⟩
      case measure => simp [intOf]; omega
    · obtain rfl : i = n := by omega
      have HOK := hid HK.out.ok
      go_upto_region 12 with fail
      go_loopw [9, 10, 11] (KeepRel wr m l) (fun _ _ t _ => m - (intOf t).toNat)
      case atStart => exact ⟨0, none, 0, none, 0, fun _ => (none, 0, 0), Nat.zero_le _, Nat.zero_le _, rfl, rfl, rfl, Kp.start _ _ _ _, Below.refl _ _⟩
      case round =>
        obtain ⟨k, aL, cL, aW, cW, F, hkm, hk10, rfl, rfl, rfl, hP, hB4⟩ := hrel
        have HP := hid hP
        have HB4 := hid hB4
        have HK4 := hid (HK.out.later hB4)
        clear hP hB4
        by_cases hgo : k < m ∧ k < 10
        · obtain ⟨hg1, hg2⟩ := hgo
          have hlen := hid (kids_len HOK.out (k : Int))
          go_wp2_with (first | (have hq_ := HRW; clear hq_; at_builtin; refine wpList_append_known rfl _ _ 39 rfl _ _ rfl rfl _ w8 HRW.out ?_) | (have hq_ := HC6; clear hq_; go_at_call 14; refine (copied_any a4 n4 c4 (kids l (k : Int)) _ HC6.out.1 (by have := hlen.out; have := HL4.out; omega)).mono ?_; rintro e w7 ⟨a7, c7, rfl, hO7, hb7⟩; obtain ⟨aW', cW', w8, hrun, hKp, hb8⟩ := Half.full HH.out HC6.out.2.2.1 (by omega) HC6.out.2.1 hb7 (a6, n3, c6) (a7, n4, c7) HC6.out.2.2.2 hO7 (by have := hlen.out; omega); have HRW := hid hrun; have HKp := hid hKp; have HB8 := hid (below_call (below_call HB5.out HC6.out.2.1) hb7); have HBB := hid hb8; clear hrun hKp hb8 hO7 hb7) | (have hq_ := HH; clear hq_; go_at_call 14; refine (copied_any a3 n3 c3 (kids l (k : Int)) _ HR3.out (by have := hlen.out; have := HL3.out; omega)).mono ?_; rintro e w6 ⟨a6, c6, rfl, hO6, hb6⟩; have HC6 := hid (And.intro (HR4.out.later hb6) (And.intro hb6 (And.intro HZ5.out hO6))); clear hO6 hb6) | (have hq_ := HRL; clear hq_; at_builtin; refine wpList_append_known rfl _ _ 39 rfl _ _ rfl rfl _ w5 HRL.out ?_; have HH := HH0; clear HRL) | (have hq_ := HC3; clear hq_; go_at_call 12; refine (children_any HK5.out (k : Int)).mono ?_; rintro e w4 ⟨a4, n4, c4, rfl, hO4, hb4⟩; have hl4 := hO4.len; rw [ints_length] at hl4; have HL4 := hid hl4; clear hl4; obtain ⟨aL', cL', w5, hrun, hH, hb5, hr3, hr4⟩ := Kp.half HP.out HB4.out.size (by omega) HC3.out.2 hb4 (a3, n3, c3) (a4, n4, c4) HC3.out.1 hO4 (by have := hlen.out; omega); have HRL := hid hrun; have HH0 := hid hH; have HR3 := hid hr3; have HR4 := hid hr4; have HB5 := hid (But.below (below_call (HB4.out.trans (HC3.out.2.mono HB4.out.size)) hb4) hb5 (fun z hz => hz)); have HZ5 := hid HB5.out.size; clear hrun hH hb5 hr3 hr4 hO4 hb4) | (go_at_call 12; refine (children_any HK4.out (k : Int)).mono ?_; rintro e w3 ⟨a3, n3, c3, rfl, hO3, hb3⟩; have hl3 := hO3.len; rw [ints_length] at hl3; have HL3 := hid hl3; clear hl3; have HK5 := hid (HK4.out.later hb3); have HC3 := hid (And.intro hO3 hb3); clear hO3 hb3))
          have HKN := hid (HKp.out.congr (fun q hq => kl_next l k q hq))
          go_roundw
          case rel => exact ⟨k + 1, aL', cL', aW', cW', _, by omega, by omega, rfl, rfl, by go_num, HKN.out, But.below HB8.out HBB.out (fun z hz => hz)⟩
          case measure => simp [intOf]; omega
        · have hk0 : 0 < k := by omega
          have hgt : ¬ (k : Int) < (m : Int) ∨ ((k : Int) < (m : Int) ∧ ¬ 2 * (k : Int) < 20) := by omega
          obtain ⟨lb, rfl⟩ := HP.out.ol.form (by omega)
          obtain ⟨wb, rfl⟩ := HP.out.ow.form (by omega)
          have hap := hid (Kp.apart HP.out hk10)
          have hgl := HK.out.lt
          have hgl2 := HK.out.ltg
          clear hgo
          rcases hgt with hgt | ⟨hgt, hgt2⟩ <;> go_upto_region 21 with (first | (go_at_call 15; refine hap.out.mono ?_; rintro e w5 ⟨rfl, hb5, hw5⟩; have HK5 := hid (HK4.out.but hb5 (by omega) (by omega)); have HB5 := hid (But.below HB4.out hb5 (fun z hz => hz)); have HW5 := hid hw5; clear hb5 hw5))
          all_goals
            clear hap
            go_loopw [14] (KEach w5 m) (fun t _ => m - (intOf t).toNat)
            case atStart => exact ⟨0, Nat.zero_le _, rfl, Below.refl _ _⟩
            case round =>
              obtain ⟨j, hj, rfl, hB6⟩ := hrel
              have HB6 := hid hB6
              have HK6 := hid (HK5.out.later hB6.drew)
              by_cases hgo : j < m ∧ j < k
              · obtain ⟨hj1, hj2⟩ := hgo
                obtain ⟨aw, nw, cw, hcw, hrw, hnw⟩ := HW5.out j hj2
                obtain ⟨J, hJ⟩ : ∃ J : Nat, J = 2 * j := ⟨_, rfl⟩
                rw [← hJ] at hcw
                have hJ1 : 2 * (j : Int) = (J : Int) := by omega
                have hJ2 : (J : Int) < 2 * (k : Int) := by omega
                have hJ3 : J < 2 * k := by omega
                have hJ4 : (0 : Int) ≤ (J : Int) := by omega
                have hJ5 : IntKind.i64.wrap (J : Int) = (J : Int) := by rw [IntKind.wrap_i64]; omega
                have hJ6 : (J : Int) < ((2 * k : Nat) : Int) := by omega
                clear hJ
                have KS0 := hid (cell_later hB6.drew hcw)
                have HRW := hid (fun (U : World) (hU : Below w5.heap.size w5 U) => hrw.later hU)
                have hcl := hid (kids_len HOK.out (j : Int))
                clear hB6 hcw hrw
                go_upto_region 23 with fail
                go_region_held3 (fun U => U.cell? ⟨wb, J, none⟩ = some (.slice aw nw cw)) (first | exact KS8.out | exact KS7.out | exact KS0.out) (first | (go_at_call 12; refine (children_any HK6.out (j : Int)).mono ?_; rintro e w7 ⟨a7, n7, c7, rfl, hO7, hb7⟩; have hl7 := hO7.len; rw [ints_length] at hl7; have HL7 := hid hl7; have HO7 := hid hO7.read; have HB7 := hid (HB6.out.drew.trans (hb7.mono HB6.out.drew.size)); have KS7 := hid (cell_later hb7 KS0.out); clear hl7 hO7 hb7) | (go_at_call 16; refine (numbers_same _ _ _ _ _ _ (kids l (j : Int)) _ HO7.out (HRW.out _ HB7.out) (by have := HL7.out; have := hcl.out; omega)).mono ?_; rintro e w8 ⟨rfl, q8, rfl⟩; have HB8 := hid (HB7.out.trans ((below_drewN (Below.refl _ _) q8).mono HB7.out.size)); have KS8 := hid (cell_later (below_drewN (Below.refl _ _) q8) KS7.out)))
                go_wp2
                go_roundw
                case rel => exact ⟨j + 1, by omega, by go_num, HB8.out⟩
                case measure => simp [intOf]; omega
              · have hgj : ¬ (j : Int) < (m : Int) ∨ ((j : Int) < (m : Int) ∧ ¬ 2 * (j : Int) < 2 * (k : Int)) := by omega
                have HE := hid ((HB.out.trans (HB5.out.mono HB.out.size)).trans (HB6.out.mono (HB.out.trans (HB5.out.mono HB.out.size)).size))
                clear hgo hB6
                rcases hgj with hgj | ⟨hgj, hgj2⟩ <;> go_wp2
                all_goals go_ret
                all_goals exact ⟨rfl, HE.out⟩
end Go.Proofs.Ytpkpidhomidjiaa
