import Derived.Test.YtpajmpfdaihehaaK1
import Derived.Test.YtpajmpfdaihehaaLR
namespace Go.Proofs.Ytpajmpfdaihehaa
open Go.RowKit
set_option linter.unusedVariables false

set_option maxRecDepth 100000 in
set_option maxHeartbeats 1600000 in
theorem asks_any {w : World} {g gb r hb m : Nat} {l : Fo} (h : Duo w g gb r hb m l) (a n : Int) :
    Calls Try.prog 26 #[.pointer (some ⟨g, 0, none⟩), .pointer (some ⟨r, 0, none⟩), .int .i64 a, .int .i64 n] w fun e w' => e = .returned (.bool true) ∧ Below w.heap.size w w' := by
  have HG := hid (downs_G h.ki a)
  have HU := hid (fun W (hW : Below w.heap.size w W) => ups_U (h.ki.later hW) a)
  have HF := hid (fun W (hW : Below w.heap.size w W) => fall_F (h.ki.later hW) a)
  have HN := hid (fun W (hW : Below w.heap.size w W) => under_any (h.ki.later hW) a n)
  have RG := hid (fun W (hW : Below w.heap.size w W) => rdown_any (h.re.later hW) a)
  have RU := hid (fun W (hW : Below w.heap.size w W) => rup_any (h.re.later hW) a)
  have RF := hid (fun W (hW : Below w.heap.size w W) => rfall_any (h.re.later hW) a)
  have RN := hid (fun W (hW : Below w.heap.size w W) => runder_any (h.re.later hW) a n)
  have l1 := Nat.le_trans (G_len h.ki.ok true a) h.ki.big
  have l2 := Nat.le_trans (U_len h.ki.ok a) h.ki.big
  have l3 : (Fl l a).length ≤ 1024 := by rw [Fl_len h.ki.ok a]; exact l1
  clear h
  generalize decide (a ∈ U l n) = bb at HN RN
  generalize G true l a = A at HG RG l1
  generalize U l a = B at HU RU l2
  generalize Fl l a = C at HF RF l3
  have hbb : (bb == bb) = true := by cases bb <;> rfl
  go_enter Try.func26, Try.ntmps26
  go_upto_region 4 with (first | (go_at_call 9; refine HG.out.mono ?_; rintro e w1 ⟨a1, c1, rfl, hR1, _, hb1⟩; have HR1 := hid hR1; have HB1 := hid hb1; clear hR1 hb1 HG) | (go_at_call 14; refine (HU.out _ HB1.out).mono ?_; rintro e w2 ⟨a2, c2, rfl, hR2, _, hb2⟩; have HR2 := hid hR2; have HB2 := hid (below_call HB1.out hb2); have HR1b := hid (HR1.out.later hb2); clear hR2 hb2 HU HR1 HB1) | (go_at_call 10; refine (HF.out _ HB2.out).mono ?_; rintro e w3 ⟨a3, c3, rfl, hO3, hb3⟩; have HR3 := hid hO3.read; have HB3 := hid (below_call HB2.out hb3); have HR1c := hid (HR1b.out.later hb3); have HR2c := hid (HR2.out.later hb3); clear hO3 hb3 HF HR1b HR2 HB2))
  go_wp2_with (first
    | (have hq_ := N3; clear hq_; go_at_call 25; refine N3.out.mono ?_; rintro e w9 ⟨rfl, hb9⟩; have HB9 := hid (below_call HB8.out hb9); clear hb9)
    | (have hq_ := N2; clear hq_; go_at_call 25; refine N2.out.mono ?_; rintro e w7 ⟨rfl, hb7⟩; have HB7 := hid (below_call HB6.out hb7); have HR3d := hid (HR3c.out.later hb7); clear hb7)
    | (have hq_ := N1; clear hq_; go_at_call 25; refine N1.out.mono ?_; rintro e w5 ⟨rfl, hb5⟩; have HB5 := hid (below_call HB4.out hb5); have HR2e := hid (HR2d.out.later hb5); have HR3b := hid (HR3a.out.later hb5); clear hb5)
    | (go_at_call 44; refine (RG.out _ HB3.out).mono ?_; rintro e w4 ⟨ar4, kr4, cr4, rfl, hO4, hb4⟩; have HB4 := hid (below_call HB3.out hb4); have N1 := hid (numbers_true (HR1c.out.later hb4) hO4.read (by omega)); have HR2d := hid (HR2c.out.later hb4); have HR3a := hid (HR3.out.later hb4); clear hO4 hb4)
    | (go_at_call 45; refine (RU.out _ HB5.out).mono ?_; rintro e w6 ⟨ar6, kr6, cr6, rfl, hO6, hb6⟩; have HB6 := hid (below_call HB5.out hb6); have N2 := hid (numbers_true (HR2e.out.later hb6) hO6.read (by omega)); have HR3c := hid (HR3b.out.later hb6); clear hO6 hb6)
    | (go_at_call 46; refine (RF.out _ HB7.out).mono ?_; rintro e w8 ⟨ar8, kr8, cr8, rfl, hO8, hb8⟩; have HB8 := hid (below_call HB7.out hb8); have N3 := hid (numbers_true (HR3d.out.later hb8) hO8.read (by omega)); clear hO8 hb8)
    | (go_at_call 15; refine (HN.out _ HB9.out).mono ?_; rintro e w10 ⟨rfl, hb10⟩; have HB10 := hid (below_call HB9.out hb10); clear hb10)
    | (go_at_call 47; refine (RN.out _ HB10.out).mono ?_; rintro e w11 ⟨rfl, hb11⟩; have HB11 := hid (below_call HB10.out hb11); clear hb11))
  go_ret
  exact ⟨rfl, HB11.out⟩
end Go.Proofs.Ytpajmpfdaihehaa
