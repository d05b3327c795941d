import Derived.Test.YtpkpidhomidjiaaS2
namespace Go.Proofs.Ytpkpidhomidjiaa
open Go.RowKit
set_option linter.unusedVariables false

def PlayRel (w : World) (g gb r hb m n : Nat) (i : Value) (w' : World) : Prop := ∃ (k : Nat) (l : Fo), k ≤ n ∧ i = .int .i64 (k : Int) ∧ Duo w' g gb r hb m l ∧ Below w.heap.size w w'
def LookRel (w : World) (m : Nat) (i : Value) (w' : World) : Prop := ∃ (k : Int), -2 ≤ k ∧ k ≤ 40 ∧ i = .int .i64 k ∧ Below w.heap.size w w'
set_option maxRecDepth 100000 in
set_option maxHeartbeats 1600000 in
theorem scripts_bad (x0 : Int) (hx : x0 < 0 ∨ 1024 < x0) (a : Option Addr) (n cap : Nat) (w : World) :
    Calls Try.prog 5 #[.int .i64 x0, .slice a n cap] w fun e w' => e = .returned (.bool true) ∧ Below w.heap.size w w' := by
  have h1 := fun W => new_bad W x0 hx
  have h2 := fun W => rnew_bad W x0 hx
  clear hx
  go_enter Try.func5, Try.ntmps5
  go_wp2_with (first | (go_at_call 6; refine (h1 _).mono ?_; rintro e w1 ⟨rfl, rfl⟩) | (go_at_call 17; refine (h2 _).mono ?_; rintro e w1 ⟨rfl, rfl⟩) | (go_at_call 7; refine (num_any _ _).mono ?_; rintro e w1 ⟨rfl, rfl⟩) | (go_at_call 8; refine (alive_any _).mono ?_; rintro e w2 ⟨rfl, hb2⟩))
  go_ret
  exact ⟨rfl, hb2⟩
/-- Behind the program's step. -/
theorem play1 {w wr w3 : World} {g gb r m bx : Nat} {l l2 : Fo} {c kd pp kk : Int} {e : Ending} (h : Duo wr g gb r r m l) (hgb : w.heap.size ≤ gb) (hB : Below w.heap.size w wr) (hbx : bx = wr.heap.size)
    (hD : Did (wr.alloc (Obj.cells #[.int .i64 kd, .int .i64 pp, .int .i64 kk] 31)).drew g gb m c l2 e w3) :
    Ki w3 g gb m l2 ∧ Re w3 r r m l ∧ r ≤ w3.heap.size ∧ Below w.heap.size w w3 ∧ (w3.cell? ⟨bx, 0, none⟩ = some (.int .i64 kd) ∧ w3.cell? ⟨bx, 1, none⟩ = some (.int .i64 pp) ∧ w3.cell? ⟨bx, 2, none⟩ = some (.int .i64 kk)) ∧ ¬ Rb w3 r bx := by
  subst hbx
  have hz : Below wr.heap.size wr (wr.alloc (Obj.cells #[.int .i64 kd, .int .i64 pp, .int .i64 kk] 31)).drew := (below1 _ _).drew
  have h2 := h.later hz
  obtain ⟨h3, h4⟩ := h2.did hD
  have hgl := h.ki.lt
  have hgr := h.gb
  have hrl := (h.re.rb (.inl rfl)).2
  refine ⟨hD.2.1, h3, h4, But.below (hB.trans (hz.mono hB.size)) hD.2.2 (fun k hk => by rw [hk]; exact hgb), ⟨?_, ?_, ?_⟩, fun hk => ?_⟩
  · exact cell_but hD.2.2 (by simp [go_sem]) (by show ¬ wr.heap.size = gb; omega)
  · exact cell_but hD.2.2 (by simp [go_sem]) (by show ¬ wr.heap.size = gb; omega)
  · exact cell_but hD.2.2 (by simp [go_sem]) (by show ¬ wr.heap.size = gb; omega)
  · have h5 : w3.heap[r]? = wr.heap[r]? := (hD.2.2.block r (Nat.lt_of_lt_of_le hrl hz.size) (by show ¬ r = gb; omega)).trans (hz.block r hrl)
    have := (h.re.rb (hk.same h5)).2
    omega
/-- Behind the document's step. -/
theorem play2 {w w3 w4 : World} {g gb r m bx : Nat} {l l2 : Fo} {c kd pp kk : Int} {e : Ending} (h1 : gb < r) (h2 : g < r) (hr : w.heap.size ≤ r) (hK : Ki w3 g gb m l2) (hR : Re w3 r r m l) (h3 : r ≤ w3.heap.size) (hB : Below w.heap.size w w3)
    (hX : w3.cell? ⟨bx, 0, none⟩ = some (.int .i64 kd) ∧ w3.cell? ⟨bx, 1, none⟩ = some (.int .i64 pp) ∧ w3.cell? ⟨bx, 2, none⟩ = some (.int .i64 kk)) (hn : ¬ Rb w3 r bx) (hD : Dd w3 r r m c l2 e w4) :
    Duo w4 g gb r r m l2 ∧ Below w.heap.size w w4 ∧ (w4.cell? ⟨bx, 0, none⟩ = some (.int .i64 kd) ∧ w4.cell? ⟨bx, 1, none⟩ = some (.int .i64 pp) ∧ w4.cell? ⟨bx, 2, none⟩ = some (.int .i64 kk)) :=
  ⟨Duo.dd h1 h2 h3 hK hR hD, But.below hB hD.2.2 (fun k hk => Nat.le_trans hr (hR.rb hk).1), cell_but hD.2.2 hX.1 hn, cell_but hD.2.2 hX.2.1 hn, cell_but hD.2.2 hX.2.2 hn⟩
theorem play3 {w4 w5 : World} {bx : Nat} {kd pp kk : Int} (h : Below w4.heap.size w4 w5) (hX : w4.cell? ⟨bx, 0, none⟩ = some (.int .i64 kd) ∧ w4.cell? ⟨bx, 1, none⟩ = some (.int .i64 pp) ∧ w4.cell? ⟨bx, 2, none⟩ = some (.int .i64 kk)) :
    w5.cell? ⟨bx, 0, none⟩ = some (.int .i64 kd) ∧ w5.cell? ⟨bx, 1, none⟩ = some (.int .i64 pp) ∧ w5.cell? ⟨bx, 2, none⟩ = some (.int .i64 kk) :=
  ⟨cell_later h hX.1, cell_later h hX.2.1, cell_later h hX.2.2⟩
set_option maxRecDepth 100000 in
set_option maxHeartbeats 1600000 in
theorem scripts_ok (m : Nat) (hm : m ≤ 1024) (a : Option Addr) (n cap : Nat) (f : Nat → Op3) (w : World) (hS : Ss w a n f) (hn : n ≤ 9223372036854775807) :
    Calls Try.prog 5 #[.int .i64 (m : Int), .slice a n cap] w fun e w' => e = .returned (.bool true) ∧ Below w.heap.size w w' := by
  have HS := hid hS
  clear hS
  go_enter Try.func5, Try.ntmps5
  go_upto_region 8 with (first | (go_at_call 6; refine (new_ok _ m hm).mono ?_; rintro e w1 ⟨g, gb, rfl, hK1, hg, hgb, hB1⟩; have HK1 := hid hK1; have HB1 := hid hB1; clear hK1 hB1) | (go_at_call 17; refine (rnew_ok _ m hm).mono ?_; rintro e w2 ⟨rfl, hR2, hb2⟩; have HD2 := hid (show Duo w2 g gb w1.heap.size w1.heap.size m [] from ⟨HK1.out.later hb2, hR2, HK1.out.lt, (by obtain ⟨N, hT, _⟩ := HK1.out; exact hT.lt), hb2.size⟩); have HB2 := hid (below_call HB1.out hb2); have hhb := HB1.out.size; clear hR2 hb2 HK1 HB1) | (go_at_call 7; refine (num_any _ _).mono ?_; rintro e w9 ⟨rfl, rfl⟩) | (go_at_call 8; refine (alive_any _).mono ?_; rintro e w3 ⟨rfl, hb3⟩; have HD3 := hid (HD2.out.later hb3); have HB3 := hid (below_call HB2.out hb3); clear hb3 HD2 HB2))
  generalize w1.heap.size = r at *
  have HHB := hid hhb
  clear hhb
  go_loopw [9] (PlayRel w g gb r r m n) (fun i _ => n - (intOf i).toNat)
  case atStart => exact ⟨0, [], Nat.zero_le _, rfl, HD3.out, HB3.out⟩
  case round =>
    clear HD3 HB3
    obtain ⟨i, l, hi, rfl, hD, hB⟩ := hrel
    have HD := hid hD
    have HB := hid hB
    clear hD hB
    by_cases hlt : i < n
    · obtain ⟨b, o, rfl, hc⟩ := HS.out (by omega)
      have hs := (hc i hlt).later HB.out
      have c0 := hs.c0
      have c1 := hs.c1
      have c2 := hs.c2
      clear hs hc
      generalize f i = s at c0 c1 c2
      obtain ⟨kd, pp, kk⟩ := s
      simp only at c0 c1 c2
      go_upto_region 11 with fail
      have hdo := hid (does_any (HD.out.later ((below1 wr (Obj.cells #[.int .i64 kd, .int .i64 pp, .int .i64 kk] 31)).drew)).ki kd pp kk)
      have KS0 : Hid ((wr.alloc (Obj.cells #[.int .i64 kd, .int .i64 pp, .int .i64 kk] 31)).drew.cell? ⟨wr.heap.size, 0, none⟩ = some (.int .i64 kd) ∧ (wr.alloc (Obj.cells #[.int .i64 kd, .int .i64 pp, .int .i64 kk] 31)).drew.cell? ⟨wr.heap.size, 1, none⟩ = some (.int .i64 pp) ∧ (wr.alloc (Obj.cells #[.int .i64 kd, .int .i64 pp, .int .i64 kk] 31)).drew.cell? ⟨wr.heap.size, 2, none⟩ = some (.int .i64 kk)) := hid ⟨by simp [go_sem], by simp [go_sem], by simp [go_sem]⟩
      have HP1 := hid (fun (w3 : World) (c : Int) (l2 : Fo) (e : Ending) => @play1 w wr w3 g gb r m wr.heap.size l l2 c kd pp kk e HD.out hgb HB.out rfl)
      have hgr := HD.out.gb
      have hgr2 := HD.out.g
      obtain ⟨l2, hl2⟩ : ∃ l2, l2 = stpL m l (kd, pp, kk) := ⟨_, rfl⟩
      have hsh := hid (fun (W : World) (h : Re W r r m l) (h3 : r ≤ W.heap.size) => should_any h kd pp kk h3)
      generalize stpE m l (kd, pp, kk) = c at hdo hsh
      rw [← hl2] at hdo hsh
      clear hl2 c0 c1 c2
      generalize wr.heap.size = bx at *
      generalize wr.alloc (Obj.cells #[.int .i64 kd, .int .i64 pp, .int .i64 kk] 31) = wz at *
      go_region_held3 (fun U => U.cell? ⟨bx, 0, none⟩ = some (.int .i64 kd) ∧ U.cell? ⟨bx, 1, none⟩ = some (.int .i64 pp) ∧ U.cell? ⟨bx, 2, none⟩ = some (.int .i64 kk)) (first | exact KS6.out | exact KS5.out | exact KS4.out | exact KS3.out | exact KS0.out) (first | (have hq_ := KS5; clear hq_; go_at_call 19; refine (told_any HD5.out pp).mono ?_; rintro e w6 ⟨rfl, hb6⟩; have HD6 := hid (HD5.out.later hb6); have HB6 := hid (HB5.out.trans (hb6.mono HB5.out.size)); have KS6 := hid (play3 hb6 KS5.out); clear hb6) | (have hq_ := KS4; clear hq_; go_at_call 19; refine (told_any HD4.out kk).mono ?_; rintro e w5 ⟨rfl, hb5⟩; have HD5 := hid (HD4.out.later hb5); have HB5 := hid (HB4.out.trans (hb5.mono HB4.out.size)); have KS5 := hid (play3 hb5 KS4.out); clear hb5) | (have hq_ := KS3; clear hq_; go_at_call 18; refine (hsh.out _ HR3.out hr3).mono ?_; rintro e w4 hD4; have hE4 := hD4.1; subst hE4; obtain ⟨h41, h42, h43⟩ := play2 hgr hgr2 HHB.out HK3.out HR3.out hr3 HB3.out KS3.out HN3.out hD4; have HD4 := hid h41; have HB4 := hid h42; have KS4 := hid h43; clear h41 h42 h43 hD4) | (go_at_call 9; refine hdo.out.mono ?_; rintro e w3 hD3; have hE3 := hD3.1; subst hE3; obtain ⟨h31, h32, hr3, h34, h35, h36⟩ := HP1.out w3 _ _ _ hD3; have HK3 := hid h31; have HR3 := hid h32; have HB3 := hid h34; have KS3 := hid h35; have HN3 := hid h36; clear h31 h32 h34 h35 h36 hD3))
      go_wp2
      go_roundw
      case rel => exact ⟨i + 1, l2, by omega, by go_num, HD6.out, HB6.out⟩
      case measure => simp [intOf]; omega
    · obtain rfl : i = n := by omega
      have hTo := hid (fun (W : World) (hW : Below wr.heap.size wr W) (k : Int) => told_any (HD.out.later hW) k)
      go_upto_region 14 with fail
      go_loopw [11] (LookRel wr m) (fun i _ => (40 - intOf i).toNat)
      case atStart => exact ⟨-2, by omega, by omega, rfl, Below.refl _ _⟩
      case round =>
        obtain ⟨k, hk1, hk2, rfl, hB4⟩ := hrel
        have HB4 := hid hB4
        clear hB4
        by_cases hk : k ≤ m ∧ k < 40
        · obtain ⟨hk3, hk4⟩ := hk
          go_wp2_with (first | (go_at_call 19; refine (hTo.out _ HB4.out k).mono ?_; rintro e w5 ⟨rfl, hb5⟩; have HB5 := hid (HB4.out.trans (hb5.mono HB4.out.size)); clear hb5))
          go_roundw
          case rel => exact ⟨k + 1, by omega, by omega, by go_num, HB5.out⟩
          case measure => simp [intOf]; omega
        · have hk' : ¬ k ≤ m ∨ (k ≤ m ∧ ¬ k < 40) := by omega
          clear hk
          have hsub : IntKind.i64.wrap ((m : Int) - 1) = (m : Int) - 1 := by rw [IntKind.wrap_i64]; omega
          rcases hk' with hk | ⟨hk, hkk⟩ <;> go_wp2_with (first | (have hq_ := HB5; clear hq_; go_at_call 19; refine (hTo.out _ HB5.out ((m : Int) - 1)).mono ?_; rintro e w6 ⟨rfl, hb6⟩; have HB6 := hid (HB5.out.trans (hb6.mono HB5.out.size)); clear hb6) | (go_at_call 19; refine (hTo.out _ HB4.out (m : Int)).mono ?_; rintro e w5 ⟨rfl, hb5⟩; have HB5 := hid (HB4.out.trans (hb5.mono HB4.out.size)); clear hb5))
          all_goals go_ret
          all_goals exact ⟨rfl, HB.out.trans (HB6.out.mono HB.out.size)⟩
theorem scripts_law (x0 : Int) (a : Option Addr) (n cap : Nat) (f : Nat → Op3) (w : World) (hS : Ss w a n f) (hn : n ≤ 9223372036854775807) :
    Calls Try.prog 5 #[.int .i64 x0, .slice a n cap] w fun e w' => e = .returned (.bool true) ∧ Below w.heap.size w w' := by
  by_cases hx : x0 < 0 ∨ 1024 < x0
  · exact scripts_bad x0 hx a n cap w
  · obtain ⟨m, rfl⟩ : ∃ m : Nat, x0 = (m : Int) := ⟨x0.toNat, by omega⟩
    exact scripts_ok m (by omega) a n cap f w hS hn
end Go.Proofs.Ytpkpidhomidjiaa
