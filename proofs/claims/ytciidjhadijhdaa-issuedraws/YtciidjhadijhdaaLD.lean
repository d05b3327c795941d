import Derived.Test.YtciidjhadijhdaaI6
namespace Go.Proofs.Ytciidjhadijhdaa.D
open Go.RowKit
open Go.Proofs.Ytciidjhadijhdaa.H (B64)
set_option linter.unusedVariables false

def LdRel (w : World) (gp bp gr br n : Nat) (f : Nat → Nat) (W : Int) (k : Nat) (v : Value) (w' : World) : Prop :=
  ∃ i t : Nat, i ≤ k ∧ v = .int .i64 (i : Int) ∧ Hid (Two w w' gp bp gr br n f W t t)
set_option maxRecDepth 100000 in
set_option maxHeartbeats 4000000 in
theorem draws_law (a x : Option Addr) (n cap k kc : Nat) (f : Nat → Nat) (F : Nat → Ak) (W : Int) (w : World) (hl : Ws w a n cap f) (hk : k ≤ 9223372036854775807) (hA : As w x k F) :
    Calls Try.prog 4 #[.slice a n cap, .int .i64 W, .slice x k kc] w fun e w' => e = .returned (.bool true) ∧ Below w.heap.size w w' := by
  have HA := hid hA
  have HL := hid hl
  clear hA
  by_cases hz : newE n W = 0
  · obtain ⟨h1, h2, h3⟩ := newE_zero hz
    have hne := hid (rnew_ok a n cap f W w hl h1 h2 h3)
    clear hz hl
    go_enter Try.func4, Try.ntmps4
    go_upto_region 2 with (first | (go_at_call 14; refine hne.out.mono ?_; rintro e w1 ⟨gr, br, rfl, hD, hg1, hg2, hB1⟩; have HD := hid hD; have HB1 := hid hB1; have HG2 := hid hg2; clear hD hB1 hg2))
    have hn2 := hid (new_ok a n cap f W w1 (HL.out.later HB1.out) h1 h2 h3)
    clear hne
    go_upto_region 3 with (first | (go_at_call 6; refine hn2.out.mono ?_; rintro e w2 ⟨gp, bp, rfl, hE, hp1, hp2, _, hB2⟩; have HE := hid hE; have HB2 := hid hB2; clear hE hB2))
    have hT : Two w w2 gp bp gr br n f W 0 0 := by
      have hrl := HD.out.lt
      exact ⟨HE.out, HD.out.later HB2.out, by omega, fun _ => by omega, fun h0 => by have := HD.out.lt2 h0; omega, Nat.le_trans HB1.out.size hp1, hg1, below_call HB1.out HB2.out⟩
    have HT := hid hT
    clear hT hn2
    go_upto_region 6 with (first | (go_at_call 7; refine (known_any _).mono ?_; rintro e w3 ⟨rfl, hB3⟩; have HT3 := hid (HT.out.later hB3); clear hB3))
    go_loopw [11] (LdRel w gp bp gr br n f W k) (fun v _ => k - (intOf v).toNat)
    case atStart => exact ⟨0, 0, Nat.zero_le _, rfl, HT3⟩
    case round =>
      obtain ⟨i, t, hi, rfl, hR⟩ := hrel
      by_cases hlt : i < k
      · obtain ⟨b, o, rfl, hat⟩ := (HA.out.later hR.out.hb).at_ (by omega)
        have hab := hat i hlt
        obtain ⟨b', o', hbo, hat'⟩ := HA.out.at_ (by omega)
        have hold := hid (hat' i hlt).old
        have hx1 := hab.c1
        have hx0 := hab.c0
        obtain ⟨sa, sm, sc, su, sb, hF⟩ : ∃ a m c u b, F i = ⟨a, m, c, u, b⟩ := ⟨_, _, _, _, _, rfl⟩
        rw [hF] at hold hx1 hx0
        simp only at hold hx1 hx0
        have HW := hid (hat' i hlt).ws
        have HM := hid (hat' i hlt).bm
        rw [hF] at HW HM
        simp only at HW HM
        have HC : Hid (∀ V, Below w.heap.size w V → V.cell? ⟨b, o + i * 2, none⟩ = some (.slice sa sm sc) ∧ V.cell? ⟨b, o + i * 2 + 1, none⟩ = some (.int .i64 sb)) := by
          intro V hV
          cases hbo
          have q0 := (hat' i hlt).c0
          have q1 := (hat' i hlt).c1
          rw [hF] at q0 q1
          exact ⟨cell_later hV q0, cell_later hV q1⟩
        clear hab hat hat' hbo hx0
        go_upto_region 9 with (first | (go_at_call 8; refine (hR.out.skip sb).mono ?_; rintro e w4 ⟨⟨c4, rfl⟩, hT4⟩; have HT4 := hid hT4; clear hT4))
        have hx1 := (HC.out _ HT4.out.hb).2
        go_upto_region 10 with (first | (go_at_call 15; refine (HT4.out.rskip sb).mono ?_; rintro e w5 ⟨⟨c5, rfl⟩, hT5⟩; have HT5 := hid hT5; clear hT5))
        have hx0 := (HC.out _ HT5.out.hb).1
        clear hx1 HT4
        have hd := hid (HT5.out.rdraw (HW.out.later HT5.out.hb) HM.out hold.out)
        obtain ⟨R, hRR⟩ : ∃ R, R = drawR (hasW su sm) (cutF f W) n 9 (skipN t n sb) := ⟨_, rfl⟩
        rw [← hRR] at hd
        have HRR := hid hRR
        clear hRR
        go_upto_region 11 with (first | (go_at_call 16; refine hd.out.mono ?_; rintro e w6 ⟨rfl, hT6, hB6⟩; have HT6 := hid hT6; clear hT6 hB6))
        have X1 := hid (Box.new w6 (hiI R.1) (loI R.1))
        have HT7 := hid (HT6.out.later (below1 w6 (.cells #[.int .u64 (hiI R.1), .int .u64 (loI R.1)] 31)))
        have hx0 := (HC.out _ HT7.out.hb).1
        have hlp := HT6.out.p.lt
        have hd2 := hid (HT7.out.draw (HW.out.later HT7.out.hb) HM.out hold.out)
        rw [← HRR.out] at hd2
        clear hd HT6 HT5
        go_upto_region 12 with (first | (go_at_call 9; refine hd2.out.mono ?_; rintro e w8 ⟨rfl, hT8, hB8⟩; have HT8 := hid hT8; have X2 := hid (X1.out.but hB8 (by show ¬ (w6.heap.size = gp); omega)); clear hT8 hB8))
        have HT9 := hid (HT8.out.later (below1 w8 (.cells #[.int .u64 (hiI R.1), .int .u64 (loI R.1)] 31)))
        obtain ⟨y0, y1⟩ := X2.out.alloc (.cells #[.int .u64 (hiI R.1), .int .u64 (loI R.1)] 31)
        obtain ⟨y2, y3⟩ := Box.new w8 (hiI R.1) (loI R.1)
        have hneq := fun V => wNe_self (hiI R.1) (loI R.1) V
        clear X1 X2 HT8 HT7 hd2 HRR
        generalize hiI R.1 = r0 at *
        generalize loI R.1 = r1 at *
        generalize R.2.1 = r2 at *
        generalize R.2.2 = r3 at *
        go_wp2_with (first | (go_at_call 10; refine (taken_any gp bp n (cutF f W) r3 _ HT9.out.p).mono ?_; rintro e w9 ⟨rfl, hw9⟩; obtain rfl := hw9.symm; clear hw9) | (go_at_call 17; refine (rtaken_any gr br n f W r3 _ HT9.out.r).mono ?_; rintro e w9 ⟨rfl, hw9⟩; obtain rfl := hw9.symm; clear hw9))
        exact ⟨⟨i + 1, r3, by omega, by go_num, HT9⟩, by simp [intOf]; omega⟩
      · obtain rfl : i = k := by omega
        go_wp2
        go_ret
        exact ⟨rfl, hR.out.hb⟩
  · have hne := hid (rnew_bad a n cap W w hz)
    have hn2 := hid (new_bad a n cap W w hz)
    generalize newE n W = E at *
    have hz2 : (E == 0) = false := by simpa using hz
    have hz3 : (!(E != 0)) = false := by simpa using hz
    have hz4 : (E != 0) = true := by simpa using hz
    go_enter Try.func4, Try.ntmps4
    go_upto_region 3 with (first | (go_at_call 14; refine hne.out.mono ?_; rintro e w1 ⟨rfl, hw1⟩; obtain rfl := hw1.symm; clear hw1) | (go_at_call 6; refine hn2.out.mono ?_; rintro e w2 ⟨rfl, hw1⟩; obtain rfl := hw1.symm; clear hw1))
    go_upto_region 6 with (first | (go_at_call 7; refine (known_any _).mono ?_; rintro e w3 ⟨rfl, hB3⟩; have HB3 := hid hB3; clear hB3))
    go_loopw [11] (fun v w' => v = .int .i64 0 ∧ Below w.heap.size w w') (fun _ _ => 0)
    case atStart => exact ⟨rfl, HB3.out⟩
    case round =>
      obtain ⟨rfl, hBr⟩ := hrel
      have HBr := hid hBr
      clear hBr
      by_cases hk0 : (0 : Int) < (k : Int)
      · go_wp2
        go_ret
        exact ⟨rfl, HBr.out⟩
      · go_wp2
        go_ret
        exact ⟨rfl, HBr.out⟩
end Go.Proofs.Ytciidjhadijhdaa.D
