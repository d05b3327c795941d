import Derived.Test.YtfeilkhlapnpoaaD1
import Derived.Deep.DeepCutAuto
namespace Go.Proofs.Ytfeilkhlapnpoaa
open Go.RowKit Go.Maps
set_option linter.unusedVariables false

theorem Duo.first (w1 w2 : World) (lo : Nat) (e a : Int) (P : Nat → Pd) (hw : w2 = (w1.alloc (Obj.cells #[.pointer none, .pointer none] 44)).alloc (Obj.cells #[.pointer none, .pointer none] 45)) (hlo : lo ≤ w1.heap.size) : Duo w2 lo w1.heap.size (w1.heap.size + 1) e a P 0 := by
  subst hw
  refine ⟨fun j hj => by omega, fun i j k hi => by omega, fun j hj => by omega, fun j hj => by omega, fun j hj => ⟨.pointer none, ?_⟩, fun j hj => ⟨.pointer none, ?_⟩, fun j hj => by omega, by omega, ⟨hlo, by omega⟩⟩
  · have : j = 0 ∨ j = 1 := by omega
    rcases this with rfl | rfl
    · exact ⟨by simp [go_sem], by simp [go_sem]⟩
    · exact ⟨by simp [go_sem], by simp [go_sem]⟩
  · have : j = 0 ∨ j = 1 := by omega
    rcases this with rfl | rfl
    · exact ⟨by simp [go_sem], by simp [go_sem]⟩
    · exact ⟨by simp [go_sem], by simp [go_sem]⟩
theorem may_at {W U : World} {g b : Nat} {e a : Int} {L : List Int} (h : Qu W g b e a L) (hU : Below W.heap.size W U) (x : Int) (hx : (Lit.int .i64 x).wf = true) : Calls Try.prog 18 #[.pointer (some ⟨g, 0, none⟩), .int .i64 x] U fun r w' => r = .returned (.int .i64 (may e a L x)) ∧ Below W.heap.size W w' :=
  (may_any (h.later hU) x hx).mono (fun r w' k => ⟨k.1, below_call hU k.2⟩)
theorem rmay_at {W U : World} {base r : Nat} {e a : Int} {pa : Option Addr} {cap : Nat} {L : List Int} (h : Rf W base r e a pa cap L) (hU : Below W.heap.size W U) (x : Int) : Calls Try.prog 19 #[.pointer (some ⟨r, 0, none⟩), .int .i64 x] U fun s w' => s = .returned (.int .i64 (may e a L x)) ∧ Below W.heap.size W w' :=
  (rmay_any (h.later hU) x).mono (fun r w' k => ⟨k.1, below_call hU k.2⟩)
theorem of_at {W U : World} {g b : Nat} {e a : Int} {L : List Int} (h : Qu W g b e a L) (hU : Below W.heap.size W U) (x : Int) (hx : (Lit.int .i64 x).wf = true) : Calls Try.prog 8 #[.pointer (some ⟨g, 0, none⟩), .int .i64 x] U fun r w' => r = .returned (.int .i64 (L.count x : Int)) ∧ Below W.heap.size W w' :=
  (of_any (h.later hU) x hx).mono (fun r w' k => ⟨k.1, by have h2 := k.2; subst h2; exact hU⟩)
theorem rof_at {W U : World} {base r : Nat} {e a : Int} {pa : Option Addr} {cap : Nat} {L : List Int} (h : Rf W base r e a pa cap L) (hU : Below W.heap.size W U) (x : Int) : Calls Try.prog 20 #[.pointer (some ⟨r, 0, none⟩), .int .i64 x] U fun s w' => s = .returned (.int .i64 (L.count x : Int)) ∧ Below W.heap.size W w' :=
  (rof_any (h.later hU) x).mono (fun r w' k => ⟨k.1, by have h2 := k.2; subst h2; exact hU⟩)
theorem all_at {W U : World} {g b : Nat} {e a : Int} {L : List Int} (h : Qu W g b e a L) (hU : Below W.heap.size W U) : Calls Try.prog 9 #[.pointer (some ⟨g, 0, none⟩)] U fun r w' => r = .returned (.int .i64 (L.length : Int)) ∧ Below W.heap.size W w' :=
  (all_any (h.later hU)).mono (fun r w' k => ⟨k.1, below_call hU k.2⟩)
def IniRel (w : World) (lo bA bB : Nat) (e a : Int) (t : Value) (w' : World) : Prop := ∃ (m : Nat) (P : Nat → Pd), m ≤ 2 ∧ t = .int .i64 (m : Int) ∧ Duo w' lo bA bB e a P m ∧ Below w.heap.size w w'
def ScrRel (w : World) (lo bA bB n : Nat) (e a : Int) (t : Value) (w' : World) : Prop := ∃ (i : Nat) (P : Nat → Pd), i ≤ n ∧ t = .int .i64 (i : Int) ∧ Duo w' lo bA bB e a P 2 ∧ Below w.heap.size w w'
/-- Behind a call of the script: both answers are one. -/
def CutE (W : World) (lo bA bB o : Nat) (e a : Int) (s t : Value) (w' : World) : Prop := ∃ (E : Int) (P : Nat → Pd), s = .int .i64 E ∧ t = .int .i64 E ∧ Duo w' lo bA bB e a P 2 ∧ But (fun k => lo ≤ k ∧ k < o) W w'
def JRel (W : World) (t : Value) (w' : World) : Prop := ∃ j : Nat, j ≤ 2 ∧ t = .int .i64 (j : Int) ∧ Below W.heap.size W w'
set_option maxRecDepth 100000 in
set_option maxHeartbeats 4000000 in
theorem all_law (e a : Int) (s : Option Addr) (n cap : Nat) (f : Nat → Sp) (w : World) (hS : Ss w s n f) (hn : n ≤ 9223372036854775807) :
    Calls Try.prog 5 #[.int .i64 e, .int .i64 a, .slice s n cap] w fun r w' => r = .returned (.bool true) ∧ Below w.heap.size w w' := by
  have HS := hid hS
  clear hS
  go_enter Try.func5, Try.ntmps5
  go_upto_region 3 with (first | (go_at_call 6; refine (head_any w).mono ?_; rintro e w1 ⟨rfl, hb1⟩; have HB1 := hid hb1; clear hb1))
  obtain ⟨w2, hw2⟩ : ∃ w2, w2 = (w1.alloc (Obj.cells #[.pointer none, .pointer none] 44)).alloc (Obj.cells #[.pointer none, .pointer none] 45) := ⟨_, rfl⟩
  have HD0 := hid (Duo.first w1 w2 w.heap.size e a (fun _ => ⟨0, 0, 0, none, 0, []⟩) hw2 HB1.out.size)
  have HB2 : Hid (Below w.heap.size w w2) := by unfold Hid; rw [hw2]; exact below_call HB1.out (below2 _ _ _)
  obtain ⟨bA, hbA⟩ : ∃ bA, bA = w1.heap.size := ⟨_, rfl⟩
  obtain ⟨bB, hbB⟩ : ∃ bB, bB = w1.heap.size + 1 := ⟨_, rfl⟩
  go_upto_region 6 with fail
  rw [← hw2, ← hbB, ← hbA]
  rw [← hbB, ← hbA] at HD0
  clear hw2 hbA hbB HB1
  by_cases hok : okB e a
  · have hne1 := hid (fun (U : World) => new_ok e a U hok)
    have hne2 := hid (fun (U : World) => rnew_ok e a U hok)
    clear hok
    go_loopw [9] (IniRel w w.heap.size bA bB e a) (fun t _ => 2 - (intOf t).toNat)
    case atStart => exact ⟨0, _, by omega, rfl, HD0.out, HB2.out⟩
    case round =>
      clear HD0 HB2
      obtain ⟨m, P, hm, rfl, hD, hB⟩ := hrel
      by_cases hml : m < 2
      · have hd : decide ((m : Int) < 2) = true := decide_eq_true (by omega)
        have hm2 : (m : Int) < 2 := by omega
        have HD := hid hD
        have HB := hid hB
        clear hD hB
        go_upto_region 9 with (first | (go_at_call 7; refine (hne1.out _).mono ?_; rintro e w3 ⟨g, b, rfl, hq3, hg3, hb3, hbl3⟩; have HQ3 := hid hq3; have HB3 := hid hbl3; have hg := hid hg3; have hb := hid hb3; clear hq3 hbl3 hg3 hb3))
        go_upto_region 14 with (first | (go_at_call 13; refine (hne2.out _).mono ?_; rintro e w4 ⟨r, rfl, hr4, hbl4⟩; have HR4 := hid hr4; have HB4 := hid hbl4; clear hr4 hbl4))
        have hD4 := HD.out.later (below_call HB3.out HB4.out)
        obtain ⟨v1, a1, f1⟩ := hD4.la m hml
        obtain ⟨v2, y2⟩ := hD4.lb m hml
        obtain ⟨a2, f2⟩ := y2.other (q := ⟨bA, m, none⟩) (u := .pointer (some ⟨g, 0, none⟩)) (fun e => HD.out.ne (congrArg Addr.block e))
        obtain ⟨P', hP'⟩ := HD.out.push hml HQ3.out hg.out hb.out HB3.out HR4.out HB4.out HB.out.size
        have HP := hid hP'
        have HBn := hid (((below_call HB.out (below_call HB3.out HB4.out)).setCell (p := ⟨bA, m, none⟩) HD.out.low.1 (.pointer (some ⟨g, 0, none⟩))).setCell (p := ⟨bB, m, none⟩) HD.out.low.2 (.pointer (some ⟨r, 0, none⟩)))
        clear hD4 hP' y2
        go_wp2
        exact ⟨⟨m + 1, P', by omega, rfl, HP.out, HBn.out⟩, by simp [intOf]; omega⟩
      · have hd : decide ((m : Int) < 2) = false := decide_eq_false (by omega)
        obtain rfl : m = 2 := by omega
        have HD := hid hD
        have HB := hid hB
        clear hD hB hne1 hne2
        go_upto_region 17 with fail
        go_loopw [14] (ScrRel w w.heap.size bA bB n e a) (fun t _ => n - (intOf t).toNat)
        case atStart => exact ⟨0, P, Nat.zero_le _, rfl, HD.out, HB.out⟩
        case round =>
          clear HD HB
          obtain ⟨i, P, hi, rfl, hD, hB⟩ := hrel
          by_cases hlt : i < n
          · obtain ⟨sb, so, rfl, hc⟩ := (HS.out.later hB).at_ (by omega)
            have hok := HS.out.ok i hlt
            obtain ⟨s0, s1, s2, s3⟩ := hc i hlt
            clear hc
            generalize hfi : f i = s at *
            clear hfi
            obtain ⟨kd, wh, x, sn⟩ := s
            simp only at s0 s1 s2 s3 hok
            obtain ⟨w1, hw1⟩ : ∃ w1, w1 = wr.alloc (Obj.cells #[.int .i64 kd, .int .i64 wh, .int .i64 x, .int .i64 sn] 29) := ⟨_, rfl⟩
            have hB1 : Below wr.heap.size wr w1 := by rw [hw1]; exact below1 _ _
            obtain ⟨m0, m1, m2, m3⟩ : Sb w1 wr.heap.size 0 ⟨kd, wh, x, sn⟩ := by rw [hw1]; exact Sb.new wr ⟨kd, wh, x, sn⟩
            simp only [Nat.zero_add] at m0 m1 m2 m3
            have hin : Hid (∀ j k, j < 2 → (P j).In k → w.heap.size ≤ k ∧ k < wr.heap.size) := fun j k hj hk => (hD.ok j hj).lo_ k hk
            have HD := hid (hD.later hB1)
            have HB := hid (below_call hB hB1)
            have hwo : Hid (w.heap.size ≤ wr.heap.size) := hB.size
            have hbo : Hid (bA < wr.heap.size ∧ bB < wr.heap.size) := hD.alt
            obtain ⟨ob_, hob⟩ : ∃ o, o = wr.heap.size := ⟨_, rfl⟩
            obtain ⟨k, hk, hk2⟩ : ∃ k : Nat, bits .and .i64 wh 1 = (k : Int) ∧ k < 2 := by
              rcases low1 wh with h | h
              · exact ⟨0, h, by omega⟩
              · exact ⟨1, h, by omega⟩
            have hk3 : (k : Int) < 2 := by omega
            clear hD hB hB1
            go_upto_region 20 with fail
            rw [← hw1, ← hob]
            rw [← hob] at m0 m1 m2 m3 hin hwo hbo
            clear hw1 s0 s1 s2 s3 hob
            go_upto_region 22 with fail
            --SWITCH
            by_cases hk0 : kd = 0
            · as_aux_lemma =>
                subst hk0
                have hP := HD.out.ok k hk2
                have HP := hid hP
                have hcal := hid (fun (U : World) (hU : Below w1.heap.size w1 U) => add_any (hP.q.later hU) x hok)
                obtain ⟨E, hE⟩ : ∃ E : Int, E = may e a (P k).L x := ⟨_, rfl⟩
                have HE := hid hE
                rw [← hE] at hcal
                have hnb : Hid (¬ (bA = (P k).b) ∧ ¬ (bB = (P k).b) ∧ ¬ (ob_ = (P k).b)) := ⟨fun e => (HD.out.out k hk2).1 (.inr (.inl e)), fun e => (HD.out.out k hk2).2 (.inr (.inl e)), fun e => by have := (hin.out k (P k).b hk2 (.inr (.inl rfl))).2; omega⟩
                have hC1 : Hid (∀ U : World, But (fun j => j = (P k).b) w1 U → (U.cell? ⟨bA, k, none⟩ = some (.pointer (some ⟨(P k).g, 0, none⟩)) ∧ U.cell? ⟨ob_, 2, none⟩ = some (.int .i64 x)) ∧ But (fun j => j = (P k).b) w1 U) := fun U hU => ⟨⟨cell_but hU (HD.out.a_ k hk2) hnb.out.1, cell_but hU m2 hnb.out.2.2⟩, hU⟩
                clear hP hE
                go_upto_region 24 with fail
                go_region_held3 (fun U => (U.cell? ⟨bA, k, none⟩ = some (.pointer (some ⟨(P k).g, 0, none⟩)) ∧ U.cell? ⟨ob_, 2, none⟩ = some (.int .i64 x)) ∧ But (fun j => j = (P k).b) w1 U) (first | exact hC1.out _ HBt.out | exact hC1.out _ (But.of (Below.refl _ _).drew)) (first
                  | (go_at_call 11; refine (hcal.out _ (Below.refl _ _).drew).mono ?_; rintro e w5 ⟨rfl, hq5, hb5⟩; have HQ5 := hid hq5; have HBt := hid ((But.of (Below.refl w1.heap.size w1).drew).trans hb5); clear hq5 hb5))
                have HR5 := hid (HP.out.rf1 HBt.out)
                have hca2 := hid (fun (U : World) (hU : Below w5.heap.size w5 U) => radd_any (HR5.out.later hU) x)
                rw [← HE.out] at hca2
                have hC2 : Hid (∀ U : World, But (fun j => j = (P k).r ∨ Blk (P k).pa j) w5 U → (U.cell? ⟨bB, k, none⟩ = some (.pointer (some ⟨(P k).r, 0, none⟩)) ∧ U.cell? ⟨ob_, 2, none⟩ = some (.int .i64 x)) ∧ But (fun j => j = (P k).r ∨ Blk (P k).pa j) w5 U) := fun U hU => ⟨⟨cell_but hU (cell_but HBt.out (HD.out.b_ k hk2) hnb.out.2.1) (fun e => (HD.out.out k hk2).2 (.inr (.inr e))), cell_but hU (cell_but HBt.out m2 hnb.out.2.2) (fun e => by have := (hin.out k ob_ hk2 (.inr (.inr e))).2; omega)⟩, hU⟩
                clear hcal hC1
                go_upto_region 25 with fail
                go_region_held3 (fun U => (U.cell? ⟨bB, k, none⟩ = some (.pointer (some ⟨(P k).r, 0, none⟩)) ∧ U.cell? ⟨ob_, 2, none⟩ = some (.int .i64 x)) ∧ But (fun j => j = (P k).r ∨ Blk (P k).pa j) w5 U) (first | exact hC2.out _ HBu.out | exact hC2.out _ (But.of (Below.refl _ _).drew)) (first
                  | (go_at_call 14; refine (hca2.out _ (Below.refl _ _).drew).mono ?_; rintro e w7 ⟨pa7, cap7, rfl, hr7, hd7⟩; have HR7 := hid hr7; have HBu := hid ((But.of (Below.refl w5.heap.size w5).drew).trans hd7.but); have HRd : Hid (Rd w5 w7 (P k).r (P k).pa pa7) := ⟨HBu.out, hd7.on⟩; clear hr7 hd7))
                obtain ⟨P7, hP7, hD7⟩ : ∃ P7 : Nat → Pd, P7 = P7 ∧ Duo w7 w.heap.size bA bB e a P7 2 := by
                  obtain ⟨h1, h2, h3⟩ := HP.out.two HQ5.out HBt.out HR7.out HRd.out
                  exact ⟨_, rfl, HD.out.step hk2 h1 h2 h3⟩
                have HD7 := hid hD7
                have hIn : But (P k).In w1 w7 := (HP.out.two HQ5.out HBt.out HR7.out HRd.out).2.1
                have HB7 := hid (But.below HB.out hIn (fun j hj => (hin.out k j hk2 hj).1))
                have n2 := cell_but hIn m2 (fun h => by have := (hin.out k ob_ hk2 h).2; omega)
                clear hP7 hD7 hIn hca2 hC2 HQ5 HR5 HR7 HBt HBu HRd HP HE hnb m0 m1 m2 m3 HD HB
                go_upto_region 29 with fail
                have hP := HD7.out.ok k hk2
                have hmy := hid (fun (U : World) (hU : Below w7.heap.size w7 U) => may_at hP.q hU x hok)
                have hrm := hid (fun (U : World) (hU : Below w7.heap.size w7 U) => rmay_at hP.rf hU x)
                have hC : Hid (∀ U : World, Below w7.heap.size w7 U → (U.cell? ⟨bA, k, none⟩ = some (.pointer (some ⟨(P7 k).g, 0, none⟩)) ∧ U.cell? ⟨bB, k, none⟩ = some (.pointer (some ⟨(P7 k).r, 0, none⟩)) ∧ U.cell? ⟨ob_, 2, none⟩ = some (.int .i64 x)) ∧ Below w7.heap.size w7 U) := fun U hU => ⟨⟨cell_later hU (HD7.out.a_ k hk2), cell_later hU (HD7.out.b_ k hk2), cell_later hU n2⟩, hU⟩
                clear hP
                generalize may e a (P7 k).L x = mm at hmy hrm
                go_region_held3 (fun U => (U.cell? ⟨bA, k, none⟩ = some (.pointer (some ⟨(P7 k).g, 0, none⟩)) ∧ U.cell? ⟨bB, k, none⟩ = some (.pointer (some ⟨(P7 k).r, 0, none⟩)) ∧ U.cell? ⟨ob_, 2, none⟩ = some (.int .i64 x)) ∧ Below w7.heap.size w7 U) (first | exact hC.out _ HBm.out | exact hC.out _ (Below.refl _ _).drew) (first
                  | (go_at_call 18; refine (hmy.out _ (by first | exact HBm.out | exact (Below.refl _ _).drew)).mono ?_; rintro e w8 ⟨rfl, hb8⟩; have HBm := hid hb8; clear hb8)
                  | (go_at_call 19; refine (hrm.out _ (by first | exact HBm.out | exact (Below.refl _ _).drew)).mono ?_; rintro e w8 ⟨rfl, hb8⟩; have HBm := hid hb8; clear hb8))
                clear hmy hrm hC
                go_upto_region 32 with fail
                go_loopw [19] (JRel w7) (fun t _ => 2 - (intOf t).toNat)
                case atStart => exact ⟨0, by omega, rfl, HBm.out⟩
                case round =>
                  clear HBm
                  obtain ⟨j, hj, rfl, hBj⟩ := hrel
                  by_cases hjl : j < 2
                  · have hd : decide ((j : Int) < 2) = true := decide_eq_true (by omega)
                    have hj3 : (j : Int) < 2 := by omega
                    have hDj := HD7.out.later hBj
                    have hP := hDj.ok j hjl
                    have hof := hid (fun (U : World) (hU : Below wr.heap.size wr U) => of_at hP.q hU x hok)
                    have hro := hid (fun (U : World) (hU : Below wr.heap.size wr U) => rof_at hP.rf hU x)
                    have hal := hid (fun (U : World) (hU : Below wr.heap.size wr U) => all_at hP.q hU)
                    have hob := hid (fun (U : World) (hU : Below wr.heap.size wr U) => objects_any (hP.q.later hU))
                    have hrb := hid (fun (U : World) (hU : Below wr.heap.size wr U) => robjects_any (hP.rf.later hU))
                    have hol : (ob (P7 j).L).length ≤ 256 := by have h1 := ob_len (P7 j).L; have h2 := hP.q.sz.len; have h3 := hP.q.sz.a2; omega
                    have hC : Hid (∀ U : World, Below wr.heap.size wr U → (U.cell? ⟨bA, j, none⟩ = some (.pointer (some ⟨(P7 j).g, 0, none⟩)) ∧ U.cell? ⟨bB, j, none⟩ = some (.pointer (some ⟨(P7 j).r, 0, none⟩)) ∧ U.cell? ⟨ob_, 2, none⟩ = some (.int .i64 x) ∧ U.cell? ⟨(P7 j).r, 2, none⟩ = some (.slice (P7 j).pa (P7 j).L.length (P7 j).cap)) ∧ Below wr.heap.size wr U) := fun U hU => ⟨⟨cell_later hU (hDj.a_ j hjl), cell_later hU (hDj.b_ j hjl), cell_later hU (cell_later hBj n2), cell_later hU hP.rf.c2.1⟩, hU⟩
                    generalize ((P7 j).L.count x : Int) = cn at hof hro
                    generalize ob (P7 j).L = O at hob hrb hol
                    have HBJ := hid hBj
                    clear hDj hP hBj
                    go_upto_region 34 with fail
                    go_region_held3 (fun U => (U.cell? ⟨bA, j, none⟩ = some (.pointer (some ⟨(P7 j).g, 0, none⟩)) ∧ U.cell? ⟨bB, j, none⟩ = some (.pointer (some ⟨(P7 j).r, 0, none⟩)) ∧ U.cell? ⟨ob_, 2, none⟩ = some (.int .i64 x) ∧ U.cell? ⟨(P7 j).r, 2, none⟩ = some (.slice (P7 j).pa (P7 j).L.length (P7 j).cap)) ∧ Below wr.heap.size wr U) (first | exact hC.out _ HBm.out | exact hC.out _ (Below.refl _ _).drew) (first
                      | (go_at_call 8; refine (hof.out _ (by first | exact HBm.out | exact (Below.refl _ _).drew)).mono ?_; rintro e w8 ⟨rfl, hb8⟩; have HBm := hid hb8; clear hb8)
                      | (go_at_call 20; refine (hro.out _ (by first | exact HBm.out | exact (Below.refl _ _).drew)).mono ?_; rintro e w8 ⟨rfl, hb8⟩; have HBm := hid hb8; clear hb8)
                      | (go_at_call 9; refine (hal.out _ HBm.out).mono ?_; rintro e w8 ⟨rfl, hb8⟩; have HBm := hid hb8; clear hb8)
                      | (go_at_call 15; have hO := HOA.out; have hc := hrb.out _ HBm.out; refine hc.mono ?_; clear hc; rintro e w9 ⟨p9, c9, rfl, ho9, hb9⟩; have HBm := hid (below_call HBm.out hb9); have HX := hid (hO.later hb9); have HY := hid ho9; clear ho9 hb9 hO HOA)
                      | (go_at_call 12; have hO := HOB.out; have hc := hob.out _ HBm.out; refine hc.mono ?_; clear hc; rintro e w9 ⟨p8, c8, rfl, ho9, hb9⟩; have HBm := hid (below_call HBm.out hb9); have HY := hid (hO.later hb9); have HX := hid ho9; clear ho9 hb9 hO HOB)
                      | (go_at_call 12; have hc := hob.out _ HBm.out; refine hc.mono ?_; clear hc; rintro e w8 ⟨p8, c8, rfl, ho8, hb8⟩; have HBm := hid (below_call HBm.out hb8); have HOA := hid ho8; clear ho8 hb8)
                      | (go_at_call 15; have hc := hrb.out _ HBm.out; refine hc.mono ?_; clear hc; rintro e w8 ⟨p9, c9, rfl, ho8, hb8⟩; have HBm := hid (below_call HBm.out hb8); have HOB := hid ho8; clear ho8 hb8)
                      | (go_at_call 16; refine (same_true HX.out.read HY.out.read (by omega)).mono ?_; rintro e w10 ⟨rfl, hb10⟩; have HBm := hid (below_call HBm.out hb10); clear hb10))
                    go_wp2
                    exact ⟨⟨j + 1, by omega, rfl, below_call HBJ.out HBm.out⟩, by simp [intOf]; omega⟩
                  · have hd : decide ((j : Int) < 2) = false := decide_eq_false (by omega)
                    have HDe := hid (HD7.out.later hBj)
                    have HBe := hid (below_call HB7.out hBj)
                    clear hBj
                    go_wp2
                    go_roundw
                    case rel =>
                      (repeat apply Exists.intro)
                      exact ⟨⟨i + 1, P7, by omega, by go_num, HDe.out, HBe.out⟩, rfl⟩
                    case measure => simp [intOf]; omega
            · by_cases hk1 : kd = 1
              · as_aux_lemma =>
                  subst hk1
                  have hd0 : ((1 : Int) == 0) = false := by decide
                  have hP := HD.out.ok k hk2
                  have HP := hid hP
                  have hcal := hid (fun (U : World) (hU : Below w1.heap.size w1 U) => sub_any (hP.q.later hU) x sn hok)
                  obtain ⟨E, hE⟩ : ∃ E : Int, E = subO (P k).L x sn := ⟨_, rfl⟩
                  have HE := hid hE
                  rw [← hE] at hcal
                  have hnb : Hid (¬ (bA = (P k).b) ∧ ¬ (bB = (P k).b) ∧ ¬ (ob_ = (P k).b)) := ⟨fun e => (HD.out.out k hk2).1 (.inr (.inl e)), fun e => (HD.out.out k hk2).2 (.inr (.inl e)), fun e => by have := (hin.out k (P k).b hk2 (.inr (.inl rfl))).2; omega⟩
                  have hC1 : Hid (∀ U : World, But (fun j => j = (P k).b) w1 U → (U.cell? ⟨bA, k, none⟩ = some (.pointer (some ⟨(P k).g, 0, none⟩)) ∧ U.cell? ⟨ob_, 2, none⟩ = some (.int .i64 x) ∧ U.cell? ⟨ob_, 3, none⟩ = some (.int .i64 sn)) ∧ But (fun j => j = (P k).b) w1 U) := fun U hU => ⟨⟨cell_but hU (HD.out.a_ k hk2) hnb.out.1, cell_but hU m2 hnb.out.2.2, cell_but hU m3 hnb.out.2.2⟩, hU⟩
                  clear hP hE
                  go_upto_region 27 with fail
                  go_region_held3 (fun U => (U.cell? ⟨bA, k, none⟩ = some (.pointer (some ⟨(P k).g, 0, none⟩)) ∧ U.cell? ⟨ob_, 2, none⟩ = some (.int .i64 x) ∧ U.cell? ⟨ob_, 3, none⟩ = some (.int .i64 sn)) ∧ But (fun j => j = (P k).b) w1 U) (first | exact hC1.out _ HBt.out | exact hC1.out _ (But.of (Below.refl _ _).drew)) (first
                    | (go_at_call 10; refine (hcal.out _ (Below.refl _ _).drew).mono ?_; rintro e w5 ⟨rfl, hq5, hb5⟩; have HQ5 := hid hq5; have HBt := hid ((But.of (Below.refl w1.heap.size w1).drew).trans hb5); clear hq5 hb5))
                  have HR5 := hid (HP.out.rf1 HBt.out)
                  have hca2 := hid (fun (U : World) (hU : Below w5.heap.size w5 U) => rsub_any (HR5.out.later hU) x sn)
                  rw [← HE.out] at hca2
                  have hC2 : Hid (∀ U : World, But (fun j => j = (P k).r ∨ Blk (P k).pa j) w5 U → (U.cell? ⟨bB, k, none⟩ = some (.pointer (some ⟨(P k).r, 0, none⟩)) ∧ U.cell? ⟨ob_, 2, none⟩ = some (.int .i64 x) ∧ U.cell? ⟨ob_, 3, none⟩ = some (.int .i64 sn)) ∧ But (fun j => j = (P k).r ∨ Blk (P k).pa j) w5 U) := fun U hU => ⟨⟨cell_but hU (cell_but HBt.out (HD.out.b_ k hk2) hnb.out.2.1) (fun e => (HD.out.out k hk2).2 (.inr (.inr e))), cell_but hU (cell_but HBt.out m2 hnb.out.2.2) (fun e => by have := (hin.out k ob_ hk2 (.inr (.inr e))).2; omega), cell_but hU (cell_but HBt.out m3 hnb.out.2.2) (fun e => by have := (hin.out k ob_ hk2 (.inr (.inr e))).2; omega)⟩, hU⟩
                  clear hcal hC1
                  go_upto_region 28 with fail
                  go_region_held3 (fun U => (U.cell? ⟨bB, k, none⟩ = some (.pointer (some ⟨(P k).r, 0, none⟩)) ∧ U.cell? ⟨ob_, 2, none⟩ = some (.int .i64 x) ∧ U.cell? ⟨ob_, 3, none⟩ = some (.int .i64 sn)) ∧ But (fun j => j = (P k).r ∨ Blk (P k).pa j) w5 U) (first | exact hC2.out _ HBu.out | exact hC2.out _ (But.of (Below.refl _ _).drew)) (first
                    | (go_at_call 17; refine (hca2.out _ (Below.refl _ _).drew).mono ?_; rintro e w7 ⟨pa7, cap7, rfl, hr7, hd7⟩; have HR7 := hid hr7; have HBu := hid ((But.of (Below.refl w5.heap.size w5).drew).trans hd7.but); have HRd : Hid (Rd w5 w7 (P k).r (P k).pa pa7) := ⟨HBu.out, hd7.on⟩; clear hr7 hd7))
                  obtain ⟨P7, hP7, hD7⟩ : ∃ P7 : Nat → Pd, P7 = P7 ∧ Duo w7 w.heap.size bA bB e a P7 2 := by
                    obtain ⟨h1, h2, h3⟩ := HP.out.two HQ5.out HBt.out HR7.out HRd.out
                    exact ⟨_, rfl, HD.out.step hk2 h1 h2 h3⟩
                  have HD7 := hid hD7
                  have hIn : But (P k).In w1 w7 := (HP.out.two HQ5.out HBt.out HR7.out HRd.out).2.1
                  have HB7 := hid (But.below HB.out hIn (fun j hj => (hin.out k j hk2 hj).1))
                  have n2 := cell_but hIn m2 (fun h => by have := (hin.out k ob_ hk2 h).2; omega)
                  clear hP7 hD7 hIn hca2 hC2 HQ5 HR5 HR7 HBt HBu HRd HP HE hnb m0 m1 m2 m3 HD HB
                  go_upto_region 29 with fail
                  have hP := HD7.out.ok k hk2
                  have hmy := hid (fun (U : World) (hU : Below w7.heap.size w7 U) => may_at hP.q hU x hok)
                  have hrm := hid (fun (U : World) (hU : Below w7.heap.size w7 U) => rmay_at hP.rf hU x)
                  have hC : Hid (∀ U : World, Below w7.heap.size w7 U → (U.cell? ⟨bA, k, none⟩ = some (.pointer (some ⟨(P7 k).g, 0, none⟩)) ∧ U.cell? ⟨bB, k, none⟩ = some (.pointer (some ⟨(P7 k).r, 0, none⟩)) ∧ U.cell? ⟨ob_, 2, none⟩ = some (.int .i64 x)) ∧ Below w7.heap.size w7 U) := fun U hU => ⟨⟨cell_later hU (HD7.out.a_ k hk2), cell_later hU (HD7.out.b_ k hk2), cell_later hU n2⟩, hU⟩
                  clear hP
                  generalize may e a (P7 k).L x = mm at hmy hrm
                  go_region_held3 (fun U => (U.cell? ⟨bA, k, none⟩ = some (.pointer (some ⟨(P7 k).g, 0, none⟩)) ∧ U.cell? ⟨bB, k, none⟩ = some (.pointer (some ⟨(P7 k).r, 0, none⟩)) ∧ U.cell? ⟨ob_, 2, none⟩ = some (.int .i64 x)) ∧ Below w7.heap.size w7 U) (first | exact hC.out _ HBm.out | exact hC.out _ (Below.refl _ _).drew) (first
                    | (go_at_call 18; refine (hmy.out _ (by first | exact HBm.out | exact (Below.refl _ _).drew)).mono ?_; rintro e w8 ⟨rfl, hb8⟩; have HBm := hid hb8; clear hb8)
                    | (go_at_call 19; refine (hrm.out _ (by first | exact HBm.out | exact (Below.refl _ _).drew)).mono ?_; rintro e w8 ⟨rfl, hb8⟩; have HBm := hid hb8; clear hb8))
                  clear hmy hrm hC
                  go_upto_region 32 with fail
                  go_loopw [19] (JRel w7) (fun t _ => 2 - (intOf t).toNat)
                  case atStart => exact ⟨0, by omega, rfl, HBm.out⟩
                  case round =>
                    clear HBm
                    obtain ⟨j, hj, rfl, hBj⟩ := hrel
                    by_cases hjl : j < 2
                    · have hd : decide ((j : Int) < 2) = true := decide_eq_true (by omega)
                      have hj3 : (j : Int) < 2 := by omega
                      have hDj := HD7.out.later hBj
                      have hP := hDj.ok j hjl
                      have hof := hid (fun (U : World) (hU : Below wr.heap.size wr U) => of_at hP.q hU x hok)
                      have hro := hid (fun (U : World) (hU : Below wr.heap.size wr U) => rof_at hP.rf hU x)
                      have hal := hid (fun (U : World) (hU : Below wr.heap.size wr U) => all_at hP.q hU)
                      have hob := hid (fun (U : World) (hU : Below wr.heap.size wr U) => objects_any (hP.q.later hU))
                      have hrb := hid (fun (U : World) (hU : Below wr.heap.size wr U) => robjects_any (hP.rf.later hU))
                      have hol : (ob (P7 j).L).length ≤ 256 := by have h1 := ob_len (P7 j).L; have h2 := hP.q.sz.len; have h3 := hP.q.sz.a2; omega
                      have hC : Hid (∀ U : World, Below wr.heap.size wr U → (U.cell? ⟨bA, j, none⟩ = some (.pointer (some ⟨(P7 j).g, 0, none⟩)) ∧ U.cell? ⟨bB, j, none⟩ = some (.pointer (some ⟨(P7 j).r, 0, none⟩)) ∧ U.cell? ⟨ob_, 2, none⟩ = some (.int .i64 x) ∧ U.cell? ⟨(P7 j).r, 2, none⟩ = some (.slice (P7 j).pa (P7 j).L.length (P7 j).cap)) ∧ Below wr.heap.size wr U) := fun U hU => ⟨⟨cell_later hU (hDj.a_ j hjl), cell_later hU (hDj.b_ j hjl), cell_later hU (cell_later hBj n2), cell_later hU hP.rf.c2.1⟩, hU⟩
                      generalize ((P7 j).L.count x : Int) = cn at hof hro
                      generalize ob (P7 j).L = O at hob hrb hol
                      have HBJ := hid hBj
                      clear hDj hP hBj
                      go_upto_region 34 with fail
                      go_region_held3 (fun U => (U.cell? ⟨bA, j, none⟩ = some (.pointer (some ⟨(P7 j).g, 0, none⟩)) ∧ U.cell? ⟨bB, j, none⟩ = some (.pointer (some ⟨(P7 j).r, 0, none⟩)) ∧ U.cell? ⟨ob_, 2, none⟩ = some (.int .i64 x) ∧ U.cell? ⟨(P7 j).r, 2, none⟩ = some (.slice (P7 j).pa (P7 j).L.length (P7 j).cap)) ∧ Below wr.heap.size wr U) (first | exact hC.out _ HBm.out | exact hC.out _ (Below.refl _ _).drew) (first
                        | (go_at_call 8; refine (hof.out _ (by first | exact HBm.out | exact (Below.refl _ _).drew)).mono ?_; rintro e w8 ⟨rfl, hb8⟩; have HBm := hid hb8; clear hb8)
                        | (go_at_call 20; refine (hro.out _ (by first | exact HBm.out | exact (Below.refl _ _).drew)).mono ?_; rintro e w8 ⟨rfl, hb8⟩; have HBm := hid hb8; clear hb8)
                        | (go_at_call 9; refine (hal.out _ HBm.out).mono ?_; rintro e w8 ⟨rfl, hb8⟩; have HBm := hid hb8; clear hb8)
                        | (go_at_call 15; have hO := HOA.out; have hc := hrb.out _ HBm.out; refine hc.mono ?_; clear hc; rintro e w9 ⟨p9, c9, rfl, ho9, hb9⟩; have HBm := hid (below_call HBm.out hb9); have HX := hid (hO.later hb9); have HY := hid ho9; clear ho9 hb9 hO HOA)
                        | (go_at_call 12; have hO := HOB.out; have hc := hob.out _ HBm.out; refine hc.mono ?_; clear hc; rintro e w9 ⟨p8, c8, rfl, ho9, hb9⟩; have HBm := hid (below_call HBm.out hb9); have HY := hid (hO.later hb9); have HX := hid ho9; clear ho9 hb9 hO HOB)
                        | (go_at_call 12; have hc := hob.out _ HBm.out; refine hc.mono ?_; clear hc; rintro e w8 ⟨p8, c8, rfl, ho8, hb8⟩; have HBm := hid (below_call HBm.out hb8); have HOA := hid ho8; clear ho8 hb8)
                        | (go_at_call 15; have hc := hrb.out _ HBm.out; refine hc.mono ?_; clear hc; rintro e w8 ⟨p9, c9, rfl, ho8, hb8⟩; have HBm := hid (below_call HBm.out hb8); have HOB := hid ho8; clear ho8 hb8)
                        | (go_at_call 16; refine (same_true HX.out.read HY.out.read (by omega)).mono ?_; rintro e w10 ⟨rfl, hb10⟩; have HBm := hid (below_call HBm.out hb10); clear hb10))
                      go_wp2
                      exact ⟨⟨j + 1, by omega, rfl, below_call HBJ.out HBm.out⟩, by simp [intOf]; omega⟩
                    · have hd : decide ((j : Int) < 2) = false := decide_eq_false (by omega)
                      have HDe := hid (HD7.out.later hBj)
                      have HBe := hid (below_call HB7.out hBj)
                      clear hBj
                      go_wp2
                      go_roundw
                      case rel =>
                        (repeat apply Exists.intro)
                        exact ⟨⟨i + 1, P7, by omega, by go_num, HDe.out, HBe.out⟩, rfl⟩
                      case measure => simp [intOf]; omega
              · as_aux_lemma =>
                  have hd0 : (kd == 0) = false := by simp [hk0]
                  have hd1 : (kd == 1) = false := by simp [hk1]
                  obtain ⟨P7, hP7⟩ : ∃ P7, P7 = P := ⟨_, rfl⟩
                  obtain ⟨w7, hw7⟩ : ∃ w7, w7 = w1 := ⟨_, rfl⟩
                  have HD7 : Hid (Duo w7 w.heap.size bA bB e a P7 2) := by rw [hP7, hw7]; exact HD.out
                  have HB7 : Hid (Below w.heap.size w w7) := by rw [hw7]; exact HB.out
                  have n2 : w7.cell? ⟨ob_, 2, none⟩ = some (.int .i64 x) := by rw [hw7]; exact m2
                  go_upto_region 29 with fail
                  rw [← hw7]
                  clear hw7 hP7 m0 m1 m2 m3 HD HB
                  have hP := HD7.out.ok k hk2
                  have hmy := hid (fun (U : World) (hU : Below w7.heap.size w7 U) => may_at hP.q hU x hok)
                  have hrm := hid (fun (U : World) (hU : Below w7.heap.size w7 U) => rmay_at hP.rf hU x)
                  have hC : Hid (∀ U : World, Below w7.heap.size w7 U → (U.cell? ⟨bA, k, none⟩ = some (.pointer (some ⟨(P7 k).g, 0, none⟩)) ∧ U.cell? ⟨bB, k, none⟩ = some (.pointer (some ⟨(P7 k).r, 0, none⟩)) ∧ U.cell? ⟨ob_, 2, none⟩ = some (.int .i64 x)) ∧ Below w7.heap.size w7 U) := fun U hU => ⟨⟨cell_later hU (HD7.out.a_ k hk2), cell_later hU (HD7.out.b_ k hk2), cell_later hU n2⟩, hU⟩
                  clear hP
                  generalize may e a (P7 k).L x = mm at hmy hrm
                  go_region_held3 (fun U => (U.cell? ⟨bA, k, none⟩ = some (.pointer (some ⟨(P7 k).g, 0, none⟩)) ∧ U.cell? ⟨bB, k, none⟩ = some (.pointer (some ⟨(P7 k).r, 0, none⟩)) ∧ U.cell? ⟨ob_, 2, none⟩ = some (.int .i64 x)) ∧ Below w7.heap.size w7 U) (first | exact hC.out _ HBm.out | exact hC.out _ (Below.refl _ _).drew) (first
                    | (go_at_call 18; refine (hmy.out _ (by first | exact HBm.out | exact (Below.refl _ _).drew)).mono ?_; rintro e w8 ⟨rfl, hb8⟩; have HBm := hid hb8; clear hb8)
                    | (go_at_call 19; refine (hrm.out _ (by first | exact HBm.out | exact (Below.refl _ _).drew)).mono ?_; rintro e w8 ⟨rfl, hb8⟩; have HBm := hid hb8; clear hb8))
                  clear hmy hrm hC
                  go_upto_region 32 with fail
                  go_loopw [19] (JRel w7) (fun t _ => 2 - (intOf t).toNat)
                  case atStart => exact ⟨0, by omega, rfl, HBm.out⟩
                  case round =>
                    clear HBm
                    obtain ⟨j, hj, rfl, hBj⟩ := hrel
                    by_cases hjl : j < 2
                    · have hd : decide ((j : Int) < 2) = true := decide_eq_true (by omega)
                      have hj3 : (j : Int) < 2 := by omega
                      have hDj := HD7.out.later hBj
                      have hP := hDj.ok j hjl
                      have hof := hid (fun (U : World) (hU : Below wr.heap.size wr U) => of_at hP.q hU x hok)
                      have hro := hid (fun (U : World) (hU : Below wr.heap.size wr U) => rof_at hP.rf hU x)
                      have hal := hid (fun (U : World) (hU : Below wr.heap.size wr U) => all_at hP.q hU)
                      have hob := hid (fun (U : World) (hU : Below wr.heap.size wr U) => objects_any (hP.q.later hU))
                      have hrb := hid (fun (U : World) (hU : Below wr.heap.size wr U) => robjects_any (hP.rf.later hU))
                      have hol : (ob (P7 j).L).length ≤ 256 := by have h1 := ob_len (P7 j).L; have h2 := hP.q.sz.len; have h3 := hP.q.sz.a2; omega
                      have hC : Hid (∀ U : World, Below wr.heap.size wr U → (U.cell? ⟨bA, j, none⟩ = some (.pointer (some ⟨(P7 j).g, 0, none⟩)) ∧ U.cell? ⟨bB, j, none⟩ = some (.pointer (some ⟨(P7 j).r, 0, none⟩)) ∧ U.cell? ⟨ob_, 2, none⟩ = some (.int .i64 x) ∧ U.cell? ⟨(P7 j).r, 2, none⟩ = some (.slice (P7 j).pa (P7 j).L.length (P7 j).cap)) ∧ Below wr.heap.size wr U) := fun U hU => ⟨⟨cell_later hU (hDj.a_ j hjl), cell_later hU (hDj.b_ j hjl), cell_later hU (cell_later hBj n2), cell_later hU hP.rf.c2.1⟩, hU⟩
                      generalize ((P7 j).L.count x : Int) = cn at hof hro
                      generalize ob (P7 j).L = O at hob hrb hol
                      have HBJ := hid hBj
                      clear hDj hP hBj
                      go_upto_region 34 with fail
                      go_region_held3 (fun U => (U.cell? ⟨bA, j, none⟩ = some (.pointer (some ⟨(P7 j).g, 0, none⟩)) ∧ U.cell? ⟨bB, j, none⟩ = some (.pointer (some ⟨(P7 j).r, 0, none⟩)) ∧ U.cell? ⟨ob_, 2, none⟩ = some (.int .i64 x) ∧ U.cell? ⟨(P7 j).r, 2, none⟩ = some (.slice (P7 j).pa (P7 j).L.length (P7 j).cap)) ∧ Below wr.heap.size wr U) (first | exact hC.out _ HBm.out | exact hC.out _ (Below.refl _ _).drew) (first
                        | (go_at_call 8; refine (hof.out _ (by first | exact HBm.out | exact (Below.refl _ _).drew)).mono ?_; rintro e w8 ⟨rfl, hb8⟩; have HBm := hid hb8; clear hb8)
                        | (go_at_call 20; refine (hro.out _ (by first | exact HBm.out | exact (Below.refl _ _).drew)).mono ?_; rintro e w8 ⟨rfl, hb8⟩; have HBm := hid hb8; clear hb8)
                        | (go_at_call 9; refine (hal.out _ HBm.out).mono ?_; rintro e w8 ⟨rfl, hb8⟩; have HBm := hid hb8; clear hb8)
                        | (go_at_call 15; have hO := HOA.out; have hc := hrb.out _ HBm.out; refine hc.mono ?_; clear hc; rintro e w9 ⟨p9, c9, rfl, ho9, hb9⟩; have HBm := hid (below_call HBm.out hb9); have HX := hid (hO.later hb9); have HY := hid ho9; clear ho9 hb9 hO HOA)
                        | (go_at_call 12; have hO := HOB.out; have hc := hob.out _ HBm.out; refine hc.mono ?_; clear hc; rintro e w9 ⟨p8, c8, rfl, ho9, hb9⟩; have HBm := hid (below_call HBm.out hb9); have HY := hid (hO.later hb9); have HX := hid ho9; clear ho9 hb9 hO HOB)
                        | (go_at_call 12; have hc := hob.out _ HBm.out; refine hc.mono ?_; clear hc; rintro e w8 ⟨p8, c8, rfl, ho8, hb8⟩; have HBm := hid (below_call HBm.out hb8); have HOA := hid ho8; clear ho8 hb8)
                        | (go_at_call 15; have hc := hrb.out _ HBm.out; refine hc.mono ?_; clear hc; rintro e w8 ⟨p9, c9, rfl, ho8, hb8⟩; have HBm := hid (below_call HBm.out hb8); have HOB := hid ho8; clear ho8 hb8)
                        | (go_at_call 16; refine (same_true HX.out.read HY.out.read (by omega)).mono ?_; rintro e w10 ⟨rfl, hb10⟩; have HBm := hid (below_call HBm.out hb10); clear hb10))
                      go_wp2
                      exact ⟨⟨j + 1, by omega, rfl, below_call HBJ.out HBm.out⟩, by simp [intOf]; omega⟩
                    · have hd : decide ((j : Int) < 2) = false := decide_eq_false (by omega)
                      have HDe := hid (HD7.out.later hBj)
                      have HBe := hid (below_call HB7.out hBj)
                      clear hBj
                      go_wp2
                      go_roundw
                      case rel =>
                        (repeat apply Exists.intro)
                        exact ⟨⟨i + 1, P7, by omega, by go_num, HDe.out, HBe.out⟩, rfl⟩
                      case measure => simp [intOf]; omega
          --END
          · obtain rfl : i = n := by omega
            have HB := hid hB
            clear hD hB
            go_wp2
            go_ret
            exact ⟨rfl, HB.out⟩
  · have hne1 := hid (fun (U : World) => new_bad e a U hok)
    have hne2 := hid (fun (U : World) => rnew_bad e a U hok)
    clear hok
    go_loopw [9] (fun t w' => t = .int .i64 0 ∧ w2 = w') (fun _ _ => 0)
    case atStart => exact ⟨rfl, rfl⟩
    case round =>
      obtain ⟨rfl, rfl⟩ := hrel
      go_wp2_with (first
        | (go_at_call 7; refine (hne1.out _).mono ?_; rintro e w3 ⟨rfl, hw3⟩; obtain rfl := hw3.symm; clear hw3)
        | (go_at_call 13; refine (hne2.out _).mono ?_; rintro e w4 ⟨rfl, hw4⟩; obtain rfl := hw4.symm; clear hw4))
      go_ret
      exact ⟨rfl, HB2.out⟩
end Go.Proofs.Ytfeilkhlapnpoaa
