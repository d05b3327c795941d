import Derived.Test.YtpajmpfdaihehaaB2
namespace Go.Proofs.Ytpajmpfdaihehaa
open Go.RowKit
set_option linter.unusedVariables false

/-- The forest behind a script's first k calls. -/
def playL (m : Nat) (f : Nat → Op3) : Nat → Fo
  | 0 => []
  | k + 1 => stpL m (playL m f k) (f k)
def PlayRel (w : World) (g gb r m n : Nat) (f : Nat → Op3) (i : Value) (w' : World) : Prop := ∃ k : Nat, k ≤ n ∧ i = .int .i64 (k : Int) ∧ Duo w' g gb r r m (playL m f k) ∧ Below w.heap.size w w'
/-- Behind the program's step. -/
theorem play1 {w wr w3 : World} {g gb r m bx : Nat} {l l2 : Fo} {c kd pp kk : Int} {e : Ending} (h : Duo wr g gb r r m l) (hgb : w.heap.size ≤ gb) (hB : Below w.heap.size w wr) (hbx : bx = wr.heap.size)
    (hD : Did (wr.alloc (Obj.cells #[.int .i64 kd, .int .i64 pp, .int .i64 kk] 55)) g gb m c l2 e w3) :
    Ki w3 g gb m l2 ∧ Re w3 r r m l ∧ r ≤ w3.heap.size ∧ Below w.heap.size w w3 ∧ (w3.cell? ⟨bx, 0, none⟩ = some (.int .i64 kd) ∧ w3.cell? ⟨bx, 1, none⟩ = some (.int .i64 pp) ∧ w3.cell? ⟨bx, 2, none⟩ = some (.int .i64 kk)) ∧ ¬ Rb w3 r bx := by
  subst hbx
  have hz : Below wr.heap.size wr (wr.alloc (Obj.cells #[.int .i64 kd, .int .i64 pp, .int .i64 kk] 55)) := below1 _ _
  have h2 := h.later hz
  obtain ⟨h3, h4⟩ := h2.did hD
  have hgl := h.ki.lt
  have hgr := h.gb
  have hrl := (h.re.rb (.inl rfl)).2
  refine ⟨hD.2.1, h3, h4, But.below (hB.trans (hz.mono hB.size)) hD.2.2 (fun k hk => by rw [hk]; exact hgb), ⟨?_, ?_, ?_⟩, fun hk => ?_⟩
  · exact cell_but hD.2.2 (by simp [go_sem]) (by show ¬ wr.heap.size = gb; omega)
  · exact cell_but hD.2.2 (by simp [go_sem]) (by show ¬ wr.heap.size = gb; omega)
  · exact cell_but hD.2.2 (by simp [go_sem]) (by show ¬ wr.heap.size = gb; omega)
  · have h5 : w3.heap[r]? = wr.heap[r]? := (hD.2.2.block r (Nat.lt_of_lt_of_le hrl hz.size) (by show ¬ r = gb; omega)).trans (hz.block r hrl)
    have := (h.re.rb (hk.same h5)).2
    omega
/-- Behind the document's step. -/
theorem play2 {w w3 w4 : World} {g gb r m : Nat} {l l2 : Fo} {c : Int} {e : Ending} (h1 : gb < r) (h2 : g < r) (hr : w.heap.size ≤ r) (hK : Ki w3 g gb m l2) (hR : Re w3 r r m l) (h3 : r ≤ w3.heap.size) (hB : Below w.heap.size w w3) (hD : Dd w3 r r m c l2 e w4) :
    Duo w4 g gb r r m l2 ∧ Below w.heap.size w w4 :=
  ⟨Duo.dd h1 h2 h3 hK hR hD, But.below hB hD.2.2 (fun k hk => Nat.le_trans hr (hR.rb hk).1)⟩
/-- Both forests, new. -/
def Grove (w : World) (m : Nat) (l : Fo) (e : Ending) (w' : World) : Prop :=
  ∃ g gb r : Nat, e = .returned (.tuple #[.pointer (some ⟨g, 0, none⟩), .pointer (some ⟨r, 0, none⟩)]) ∧ Duo w' g gb r r m l ∧ Below w.heap.size w w' ∧ w.heap.size ≤ g ∧ w.heap.size ≤ gb ∧ w.heap.size ≤ r
set_option maxRecDepth 100000 in
set_option maxHeartbeats 1600000 in
theorem forest_any (m : Nat) (hm : m ≤ 1024) (a : Option Addr) (n cap : Nat) (f : Nat → Op3) (w : World) (hS : Ss w a n f) (hn : n ≤ 9223372036854775807) :
    Calls Try.prog 7 #[.int .i64 (m : Int), .slice a n cap] w (Grove w m (playL m f n)) := by
  have HS := hid hS
  clear hS
  go_enter Try.func7, Try.ntmps7
  go_upto_region 6 with (first | (go_at_call 21; refine (new_ok _ m hm).mono ?_; rintro e w1 ⟨g, gb, rfl, hK1, hg, hgb, hB1⟩; have HK1 := hid hK1; have HB1 := hid hB1; clear hK1 hB1) | (go_at_call 30; refine (rnew_ok _ m hm).mono ?_; rintro e w2 ⟨rfl, hR2, hb2⟩; have HD2 := hid (show Duo w2 g gb w1.heap.size w1.heap.size m [] from ⟨HK1.out.later hb2, hR2, HK1.out.lt.2, HK1.out.lt.1, hb2.size⟩); have HB2 := hid (below_call HB1.out hb2); have hhb := HB1.out.size; clear hR2 hb2 HK1 HB1) | (go_at_call 16; refine (num_any _ _).mono ?_; rintro e w9 ⟨rfl, rfl⟩))
  generalize w1.heap.size = r at *
  have HHB := hid hhb
  clear hhb
  go_loopw [10] (PlayRel w g gb r m n f) (fun i _ => n - (intOf i).toNat)
  case atStart => exact ⟨0, Nat.zero_le _, rfl, HD2.out, HB2.out⟩
  case round =>
    clear HD2 HB2
    obtain ⟨i, hi, rfl, hD, hB⟩ := hrel
    have HD := hid hD
    have HB := hid hB
    clear hD hB
    by_cases hlt : i < n
    · obtain ⟨b, o, rfl, hc⟩ := HS.out (by omega)
      have hs := (hc i hlt).later HB.out
      have c0 := hs.c0
      have c1 := hs.c1
      have c2 := hs.c2
      have HL : Hid (playL m f (i + 1) = stpL m (playL m f i) (f i)) := rfl
      clear hs hc
      generalize f i = s at c0 c1 c2 HL
      generalize playL m f i = l at HD HL
      obtain ⟨kd, pp, kk⟩ := s
      simp only at c0 c1 c2
      have HK0 := hid (HD.out.later (below1 wr (Obj.cells #[.int .i64 kd, .int .i64 pp, .int .i64 kk] 55))).ki
      have HP1 := hid (fun (w3 : World) (c : Int) (l2 : Fo) (e : Ending) => @play1 w wr w3 g gb r m wr.heap.size l l2 c kd pp kk e HD.out hgb HB.out rfl)
      have hgr := HD.out.gb
      have hgr2 := HD.out.g
      unfold stpL at HL
      by_cases k1 : kd = 1
      · subst k1
        rw [if_pos rfl] at HL
        simp only at HL
        have hr1 := root_any HK0.out kk
        have HR2 := hid (fun (W : World) (hR : Re W r r m l) (h3 : r ≤ W.heap.size) => rroot_any hR kk h3)
        generalize rootE m l kk = c at hr1 HR2
        generalize rootL m l kk = l2 at hr1 HR2 HL
        clear HK0
        go_wp2_with (first | (go_at_call 22; refine hr1.mono ?_; rintro e w3 hD3; have hE3 := hD3.1; subst hE3; obtain ⟨h31, h32, hr3, h34, ⟨y0, y1, y2⟩, h36⟩ := HP1.out w3 _ _ _ hD3; have HK3 := hid h31; have HR3 := hid h32; have HB3 := hid h34; clear h31 h32 h34 h36 hD3 hr1) | (go_at_call 16; refine (num_any _ _).mono ?_; rintro e w9 ⟨rfl, h9⟩; subst h9) | (go_at_call 31; refine (HR2.out _ HR3.out hr3).mono ?_; rintro e w4 hD4; have hE4 := hD4.1; subst hE4; obtain ⟨h41, h42⟩ := play2 hgr hgr2 HHB.out HK3.out HR3.out hr3 HB3.out hD4; have HD6 := hid h41; have HB6 := hid h42; clear h41 h42 hD4))
        go_roundw
        case rel => exact ⟨i + 1, by omega, by go_num, by rw [HL.out]; exact HD6.out, HB6.out⟩
        case measure => simp [intOf]; omega
      · rw [if_neg k1] at HL
        by_cases k2 : kd = 2
        · subst k2
          rw [if_pos rfl] at HL
          simp only at HL
          clear k1
          have hr1 := child_any HK0.out pp kk
          have HR2 := hid (fun (W : World) (hR : Re W r r m l) (h3 : r ≤ W.heap.size) => rchild_any hR pp kk h3)
          generalize childE m l pp kk = c at hr1 HR2
          generalize childL m l pp kk = l2 at hr1 HR2 HL
          clear HK0
          go_wp2_with (first | (go_at_call 23; refine hr1.mono ?_; rintro e w3 hD3; have hE3 := hD3.1; subst hE3; obtain ⟨h31, h32, hr3, h34, ⟨y0, y1, y2⟩, h36⟩ := HP1.out w3 _ _ _ hD3; have HK3 := hid h31; have HR3 := hid h32; have HB3 := hid h34; clear h31 h32 h34 h36 hD3 hr1) | (go_at_call 16; refine (num_any _ _).mono ?_; rintro e w9 ⟨rfl, h9⟩; subst h9) | (go_at_call 32; refine (HR2.out _ HR3.out hr3).mono ?_; rintro e w4 hD4; have hE4 := hD4.1; subst hE4; obtain ⟨h41, h42⟩ := play2 hgr hgr2 HHB.out HK3.out HR3.out hr3 HB3.out hD4; have HD6 := hid h41; have HB6 := hid h42; clear h41 h42 hD4))
          go_roundw
          case rel => exact ⟨i + 1, by omega, by go_num, by rw [HL.out]; exact HD6.out, HB6.out⟩
          case measure => simp [intOf]; omega
        · rw [if_neg k2] at HL
          by_cases k3 : kd = 3
          · subst k3
            rw [if_pos rfl] at HL
            simp only at HL
            clear k1 k2
            have hr1 := cut_any HK0.out kk
            have HR2 := hid (fun (W : World) (hR : Re W r r m l) (h3 : r ≤ W.heap.size) => rcut_any hR kk h3)
            generalize cutE l kk = c at hr1 HR2
            generalize cutL l kk = l2 at hr1 HR2 HL
            clear HK0
            go_wp2_with (first | (go_at_call 17; refine hr1.mono ?_; rintro e w3 hD3; have hE3 := hD3.1; subst hE3; obtain ⟨h31, h32, hr3, h34, ⟨y0, y1, y2⟩, h36⟩ := HP1.out w3 _ _ _ hD3; have HK3 := hid h31; have HR3 := hid h32; have HB3 := hid h34; clear h31 h32 h34 h36 hD3 hr1) | (go_at_call 16; refine (num_any _ _).mono ?_; rintro e w9 ⟨rfl, h9⟩; subst h9) | (go_at_call 33; refine (HR2.out _ HR3.out hr3).mono ?_; rintro e w4 hD4; have hE4 := hD4.1; subst hE4; obtain ⟨h41, h42⟩ := play2 hgr hgr2 HHB.out HK3.out HR3.out hr3 HB3.out hD4; have HD6 := hid h41; have HB6 := hid h42; clear h41 h42 hD4))
            go_roundw
            case rel => exact ⟨i + 1, by omega, by go_num, by rw [HL.out]; exact HD6.out, HB6.out⟩
            case measure => simp [intOf]; omega
          · rw [if_neg k3] at HL
            have e1 : (kd == 1) = false := by simpa using k1
            have e2 : (kd == 2) = false := by simpa using k2
            have e3 : (kd == 3) = false := by simpa using k3
            have HD6 := hid (HD.out.later (below1 wr (Obj.cells #[.int .i64 kd, .int .i64 pp, .int .i64 kk] 55)))
            have HB6 := hid (HB.out.alloc HB.out.size (Obj.cells #[.int .i64 kd, .int .i64 pp, .int .i64 kk] 55))
            clear HP1 HK0 k1 k2 k3
            go_wp2
            go_roundw
            case rel => exact ⟨i + 1, by omega, by go_num, by rw [HL.out]; exact HD6.out, HB6.out⟩
            case measure => simp [intOf]; omega
    · obtain rfl : i = n := by omega
      go_wp2
      refine bodyPost_ret (v := .tuple #[.pointer (some ⟨g, 0, none⟩), .pointer (some ⟨r, 0, none⟩)]) (by simp [results, Try.results7, go_sem]) rfl ⟨g, gb, r, rfl, HD.out, HB.out, hg, hgb, HHB.out⟩
end Go.Proofs.Ytpajmpfdaihehaa
