import Derived.Test.YtlkjieophdabpaaH1
namespace Go.Proofs.Ytlkjieophdabpaa
open Go.RowKit
set_option linter.unusedVariables false

/-- How far the law has come. -/
def RiRel (w : World) (g : Nat) (M : Int) (k : Nat) (s8 s9 s10 : Value) (w' : World) : Prop :=
  ∃ (i : Nat) (x : Int) (L : List Int) (pa : Option Addr) (cap : Nat), i ≤ k ∧ s8 = .int .i64 x ∧ s9 = .int .i64 (L.length : Int) ∧ s10 = .int .i64 (i : Int) ∧ Ob w' w.heap.size g M x pa cap L ∧ Iv M x L ∧ Below w.heap.size w w'
theorem sn_lo (L : List Int) : snC L (-1) = 5 := by simp [snC, okN]
theorem sn_hi (L : List Int) : snC L 65537 = 5 := by simp [snC, okN]
theorem snx_lo (x : Int) (L : List Int) : snX x L (-1) = x := by simp [snX, okN]
theorem snx_hi (x : Int) (L : List Int) : snX x L 65537 = x := by simp [snX, okN]
theorem has_last (L : List Int) (x : Int) : (L ++ [x]).contains x = true := by simp
set_option maxRecDepth 100000 in
set_option maxHeartbeats 4000000 in
theorem rise_law (most : Int) (a : Option Addr) (k c : Nat) (E : List Int) (w : World) (hE : Row w a k c (ints E)) (hk : k ≤ 9223372036854775807) :
    Calls Try.prog 3 #[.int .i64 most, .slice a k c] w fun e w' => e = .returned (.bool true) ∧ Below w.heap.size w w' := by
  have HE := hid hE
  have hEl : E.length = k := by have := hE.len; rwa [ints_length] at this
  clear hE
  obtain ⟨r, hr⟩ : ∃ r, r = most.tmod 32 := ⟨_, rfl⟩
  have t1 : -32 < r := hr ▸ Int.lt_tmod_of_pos most (by omega)
  have t2 : r < 32 := hr ▸ Int.tmod_lt_of_pos most (by omega)
  obtain ⟨r2, hr2⟩ : ∃ r2, r2 = (r + 32).tmod 32 := ⟨_, rfl⟩
  have t3 : 0 ≤ r2 := hr2 ▸ Int.tmod_nonneg _ (by omega)
  have t4 : r2 < 32 := hr2 ▸ Int.tmod_lt_of_pos _ (by omega)
  have hn := hid (new_ok (1 + r2) w (by omega) (by omega))
  have HI : Hid (Iv (1 + r2) 1 [0]) := Iv.start (by omega) (by omega)
  have hrr := hr.symm
  have hrr2 := hr2.symm
  clear hr hr2
  go_enter Try.func3, Try.ntmps3
  go_upto_region 2 with fail

  clear hrr hrr2
  generalize 1 + r2 = M at *
  go_upto_region 8 with (first
    | (go_at_call 6; refine hn.out.mono ?_; rintro e w1 ⟨g, pa, cap, rfl, ho, hb⟩; have HO1 := hid ho; have HB1 := hid hb; clear ho hb)
    | (go_at_call 7; refine (num_any _ _).mono ?_; rintro e w9 ⟨rfl, hw9⟩; obtain rfl := hw9.symm; clear hw9)
    | (go_at_call 8; refine (alive_any w1).mono ?_; rintro e w2 ⟨rfl, hb⟩; have HB2 := hid hb; clear hb))
  have H0 : Hid (RiRel w g M k (.int .i64 1) (.int .i64 1) (.int .i64 0) w2) := ⟨0, 1, [0], pa, cap, by omega, rfl, rfl, rfl, HO1.out.later HB2.out, HI.out, below_call HB1.out HB2.out⟩
  clear HO1 HB1 HB2 hn t1 t2 t3 t4 HI
  go_loopw [8, 9, 10] (RiRel w g M k) (fun _ _ t _ => k - (intOf t).toNat)
  case atStart => exact H0.out
  case round =>
    clear H0
    obtain ⟨i, x, L, pa, cap, hi, rfl, rfl, rfl, hO, hI, hB⟩ := hrel
    have HO := hid hO
    have HI := hid hI
    have HB := hid hB
    have hm2 := hI.m2
    have hml := hI.len
    have hx1 := hI.x1
    have hx2 := hI.x2
    clear hO hI hB
    by_cases hlt : i < k
    · have hd : decide ((i : Int) < (k : Int)) = true := decide_eq_true (by omega)
      by_cases hf : M ≤ (L.length : Int) ∨ 65535 < x
      · have hsp := hid (spawn_full HO.out HI.out hf)
        obtain ⟨x3, hx3⟩ : ∃ x3, x3 = x := ⟨_, rfl⟩
        obtain ⟨L3, hL3⟩ : ∃ L3, L3 = L := ⟨_, rfl⟩
        obtain ⟨pa3, hp3⟩ : ∃ p, p = pa := ⟨_, rfl⟩
        subst hx3 hL3 hp3
        by_cases hf1 : M = (L3.length : Int)
        · have hq1 : ((L3.length : Int) == M) = true := by simp [hf1]
          clear hf hf1
          go_upto_region 18 with (first
            | (go_at_call 9; refine hsp.out.mono ?_; rintro e w3 ⟨rfl, hq⟩; have HB2 : Hid (Below wr.heap.size wr w3) := (by obtain ⟨q, rfl⟩ := hq; exact below_drewN (Below.refl _ _) q); clear hq)
            | (go_at_call 7; refine (num_any _ _).mono ?_; rintro e w9 ⟨rfl, hw9⟩; obtain rfl := hw9.symm; clear hw9))
          have HO3 := hid (HO.out.later HB2.out)
          have HI3 := hid HI.out
          have HB3 := hid (below_call HB.out HB2.out)
          clear hsp HO HI HB HB2
          obtain ⟨b, o, rfl, hc⟩ := HE.out.plain (by omega)
          have y0 := hc i _ (ints_get E i (by omega))
          obtain ⟨n, hn⟩ : ∃ n, n = E[i]'(by omega) := ⟨_, rfl⟩
          rw [← hn] at y0
          have HY := hid (fun (U : World) (hU : Below w.heap.size w U) => cell_later hU y0)
          clear hc hn y0
          have hli := hid (live_any HO3.out HI3.out n)
          have y3 := HY.out _ HB3.out
          by_cases hn : n ∈ L3
          · have hcn : L3.contains n = true := by simpa using hn
            have hol := out_len HI3.out.rise hn
            have hex0 := hid (fun (U : World) (hU : Below w3.heap.size w3 U) => exit_any (HO3.out.later hU) HI3.out n)
            have hec : exC L3 n = 0 := by unfold exC; rw [if_pos hcn]
            rw [hec] at hex0
            rw [hcn] at hli
            have HI4 := hid (HI3.out.exit n)
            have hnn : (out L3 n).contains n = false := by simp [out]
            have hm2 := HI3.out.m2
            have hml := HI3.out.len
            clear hn hcn hec
            generalize hO : out L3 n = O at *
            go_upto_region 19 with (first | (go_at_call 10; refine hli.out.mono ?_; rintro e w4 ⟨rfl, hq⟩; have HB4 : Hid (Below w3.heap.size w3 w4) := (by obtain ⟨q, rfl⟩ := hq; exact below_drewN (Below.refl _ _) q); clear hq))
            have y4 := HY.out _ (below_call HB3.out HB4.out)
            clear y3 hli
            have hli2 := hid (fun (U : World) (c : Nat) (hU : Ob U w.heap.size g M x3 pa3 c O) => live_any hU HI4.out n)
            rw [hnn] at hli2
            go_upto_region 23 with (first
              | (go_at_call 7; refine (num_any _ _).mono ?_; rintro e w9 ⟨rfl, hw9⟩; obtain rfl := hw9.symm; clear hw9)
              | (go_at_call 11; refine (hex0.out _ HB4.out).mono ?_; rintro e w5 ⟨cap5, rfl, ho, hr⟩; have HO5 := hid ho; have HB5 := hid (hr.below (HO3.out.later HB4.out) (below_call HB3.out HB4.out)); have y5 := HY.out _ HB5.out; clear ho hr y4)
              | (go_at_call 10; refine (hli2.out _ _ HO5.out).mono ?_; rintro e w6 ⟨rfl, hq⟩; have HB6 : Hid (Below w5.heap.size w5 w6) := (by obtain ⟨q, rfl⟩ := hq; exact below_drewN (Below.refl _ _) q); clear hq y5))
            clear hex0 hli2
            have HO6 := hid (HO5.out.later HB6.out)
            have hnu := hid (numb_any HO6.out HI4.out)
            have hne := hid (fun (U : World) (hU : Below w6.heap.size w6 U) => next_any (HO6.out.later hU))
            have hlw : ((O.length : Int) != (L3.length : Int) - 1) = false := by simp; omega
            go_wp2_with (first
              | (go_at_call 12; refine hnu.out.mono ?_; rintro e w7 ⟨p7, c7, rfl, ho7, hb7⟩; have HB7 := hid hb7; clear ho7 hb7)
              | (go_at_call 13; refine (hne.out _ HB7.out).mono ?_; rintro e w9 ⟨rfl, hw9⟩; obtain rfl := hw9.symm; clear hw9))
            refine ⟨⟨i + 1, x3, O, pa3, cap5, by omega, rfl, by congr 1; omega, rfl, HO6.out.later HB7.out, HI4.out, below_call (below_call HB5.out HB6.out) HB7.out⟩, by simp [intOf]; omega⟩
          · have hcn : L3.contains n = false := by simpa using hn
            have hol : (out L3 n).length = L3.length := by rw [out_none hn]
            have hex0 := hid (fun (U : World) (hU : Below w3.heap.size w3 U) => exit_any (HO3.out.later hU) HI3.out n)
            have hec : exC L3 n = 20 := by unfold exC; rw [if_neg (by rw [hcn]; simp)]
            rw [hec] at hex0
            rw [hcn] at hli
            have HI4 := hid (HI3.out.exit n)
            have hnn : (out L3 n).contains n = false := by simp [out]
            have hm2 := HI3.out.m2
            have hml := HI3.out.len
            clear hn hcn hec
            generalize hO : out L3 n = O at *
            go_upto_region 19 with (first | (go_at_call 10; refine hli.out.mono ?_; rintro e w4 ⟨rfl, hq⟩; have HB4 : Hid (Below w3.heap.size w3 w4) := (by obtain ⟨q, rfl⟩ := hq; exact below_drewN (Below.refl _ _) q); clear hq))
            have y4 := HY.out _ (below_call HB3.out HB4.out)
            clear y3 hli
            have hli2 := hid (fun (U : World) (c : Nat) (hU : Ob U w.heap.size g M x3 pa3 c O) => live_any hU HI4.out n)
            rw [hnn] at hli2
            go_upto_region 23 with (first
              | (go_at_call 7; refine (num_any _ _).mono ?_; rintro e w9 ⟨rfl, hw9⟩; obtain rfl := hw9.symm; clear hw9)
              | (go_at_call 11; refine (hex0.out _ HB4.out).mono ?_; rintro e w5 ⟨cap5, rfl, ho, hr⟩; have HO5 := hid ho; have HB5 := hid (hr.below (HO3.out.later HB4.out) (below_call HB3.out HB4.out)); have y5 := HY.out _ HB5.out; clear ho hr y4)
              | (go_at_call 10; refine (hli2.out _ _ HO5.out).mono ?_; rintro e w6 ⟨rfl, hq⟩; have HB6 : Hid (Below w5.heap.size w5 w6) := (by obtain ⟨q, rfl⟩ := hq; exact below_drewN (Below.refl _ _) q); clear hq y5))
            clear hex0 hli2
            have HO6 := hid (HO5.out.later HB6.out)
            have hnu := hid (numb_any HO6.out HI4.out)
            have hne := hid (fun (U : World) (hU : Below w6.heap.size w6 U) => next_any (HO6.out.later hU))
            have hlw : ((O.length : Int) != (L3.length : Int)) = false := by simp; omega
            go_wp2_with (first
              | (go_at_call 12; refine hnu.out.mono ?_; rintro e w7 ⟨p7, c7, rfl, ho7, hb7⟩; have HB7 := hid hb7; clear ho7 hb7)
              | (go_at_call 13; refine (hne.out _ HB7.out).mono ?_; rintro e w9 ⟨rfl, hw9⟩; obtain rfl := hw9.symm; clear hw9))
            refine ⟨⟨i + 1, x3, O, pa3, cap5, by omega, rfl, by congr 1; omega, rfl, HO6.out.later HB7.out, HI4.out, below_call (below_call HB5.out HB6.out) HB7.out⟩, by simp [intOf]; omega⟩
        · have hq1 : ((L3.length : Int) == M) = false := by simp; omega
          have hq2 : decide (x3 > 65535) = true := decide_eq_true (by omega)
          clear hf hf1
          go_upto_region 18 with (first
            | (go_at_call 9; refine hsp.out.mono ?_; rintro e w3 ⟨rfl, hq⟩; have HB2 : Hid (Below wr.heap.size wr w3) := (by obtain ⟨q, rfl⟩ := hq; exact below_drewN (Below.refl _ _) q); clear hq)
            | (go_at_call 7; refine (num_any _ _).mono ?_; rintro e w9 ⟨rfl, hw9⟩; obtain rfl := hw9.symm; clear hw9))
          have HO3 := hid (HO.out.later HB2.out)
          have HI3 := hid HI.out
          have HB3 := hid (below_call HB.out HB2.out)
          clear hsp HO HI HB HB2
          obtain ⟨b, o, rfl, hc⟩ := HE.out.plain (by omega)
          have y0 := hc i _ (ints_get E i (by omega))
          obtain ⟨n, hn⟩ : ∃ n, n = E[i]'(by omega) := ⟨_, rfl⟩
          rw [← hn] at y0
          have HY := hid (fun (U : World) (hU : Below w.heap.size w U) => cell_later hU y0)
          clear hc hn y0
          have hli := hid (live_any HO3.out HI3.out n)
          have y3 := HY.out _ HB3.out
          by_cases hn : n ∈ L3
          · have hcn : L3.contains n = true := by simpa using hn
            have hol := out_len HI3.out.rise hn
            have hex0 := hid (fun (U : World) (hU : Below w3.heap.size w3 U) => exit_any (HO3.out.later hU) HI3.out n)
            have hec : exC L3 n = 0 := by unfold exC; rw [if_pos hcn]
            rw [hec] at hex0
            rw [hcn] at hli
            have HI4 := hid (HI3.out.exit n)
            have hnn : (out L3 n).contains n = false := by simp [out]
            have hm2 := HI3.out.m2
            have hml := HI3.out.len
            clear hn hcn hec
            generalize hO : out L3 n = O at *
            go_upto_region 19 with (first | (go_at_call 10; refine hli.out.mono ?_; rintro e w4 ⟨rfl, hq⟩; have HB4 : Hid (Below w3.heap.size w3 w4) := (by obtain ⟨q, rfl⟩ := hq; exact below_drewN (Below.refl _ _) q); clear hq))
            have y4 := HY.out _ (below_call HB3.out HB4.out)
            clear y3 hli
            have hli2 := hid (fun (U : World) (c : Nat) (hU : Ob U w.heap.size g M x3 pa3 c O) => live_any hU HI4.out n)
            rw [hnn] at hli2
            go_upto_region 23 with (first
              | (go_at_call 7; refine (num_any _ _).mono ?_; rintro e w9 ⟨rfl, hw9⟩; obtain rfl := hw9.symm; clear hw9)
              | (go_at_call 11; refine (hex0.out _ HB4.out).mono ?_; rintro e w5 ⟨cap5, rfl, ho, hr⟩; have HO5 := hid ho; have HB5 := hid (hr.below (HO3.out.later HB4.out) (below_call HB3.out HB4.out)); have y5 := HY.out _ HB5.out; clear ho hr y4)
              | (go_at_call 10; refine (hli2.out _ _ HO5.out).mono ?_; rintro e w6 ⟨rfl, hq⟩; have HB6 : Hid (Below w5.heap.size w5 w6) := (by obtain ⟨q, rfl⟩ := hq; exact below_drewN (Below.refl _ _) q); clear hq y5))
            clear hex0 hli2
            have HO6 := hid (HO5.out.later HB6.out)
            have hnu := hid (numb_any HO6.out HI4.out)
            have hne := hid (fun (U : World) (hU : Below w6.heap.size w6 U) => next_any (HO6.out.later hU))
            have hlw : ((O.length : Int) != (L3.length : Int) - 1) = false := by simp; omega
            go_wp2_with (first
              | (go_at_call 12; refine hnu.out.mono ?_; rintro e w7 ⟨p7, c7, rfl, ho7, hb7⟩; have HB7 := hid hb7; clear ho7 hb7)
              | (go_at_call 13; refine (hne.out _ HB7.out).mono ?_; rintro e w9 ⟨rfl, hw9⟩; obtain rfl := hw9.symm; clear hw9))
            refine ⟨⟨i + 1, x3, O, pa3, cap5, by omega, rfl, by congr 1; omega, rfl, HO6.out.later HB7.out, HI4.out, below_call (below_call HB5.out HB6.out) HB7.out⟩, by simp [intOf]; omega⟩
          · have hcn : L3.contains n = false := by simpa using hn
            have hol : (out L3 n).length = L3.length := by rw [out_none hn]
            have hex0 := hid (fun (U : World) (hU : Below w3.heap.size w3 U) => exit_any (HO3.out.later hU) HI3.out n)
            have hec : exC L3 n = 20 := by unfold exC; rw [if_neg (by rw [hcn]; simp)]
            rw [hec] at hex0
            rw [hcn] at hli
            have HI4 := hid (HI3.out.exit n)
            have hnn : (out L3 n).contains n = false := by simp [out]
            have hm2 := HI3.out.m2
            have hml := HI3.out.len
            clear hn hcn hec
            generalize hO : out L3 n = O at *
            go_upto_region 19 with (first | (go_at_call 10; refine hli.out.mono ?_; rintro e w4 ⟨rfl, hq⟩; have HB4 : Hid (Below w3.heap.size w3 w4) := (by obtain ⟨q, rfl⟩ := hq; exact below_drewN (Below.refl _ _) q); clear hq))
            have y4 := HY.out _ (below_call HB3.out HB4.out)
            clear y3 hli
            have hli2 := hid (fun (U : World) (c : Nat) (hU : Ob U w.heap.size g M x3 pa3 c O) => live_any hU HI4.out n)
            rw [hnn] at hli2
            go_upto_region 23 with (first
              | (go_at_call 7; refine (num_any _ _).mono ?_; rintro e w9 ⟨rfl, hw9⟩; obtain rfl := hw9.symm; clear hw9)
              | (go_at_call 11; refine (hex0.out _ HB4.out).mono ?_; rintro e w5 ⟨cap5, rfl, ho, hr⟩; have HO5 := hid ho; have HB5 := hid (hr.below (HO3.out.later HB4.out) (below_call HB3.out HB4.out)); have y5 := HY.out _ HB5.out; clear ho hr y4)
              | (go_at_call 10; refine (hli2.out _ _ HO5.out).mono ?_; rintro e w6 ⟨rfl, hq⟩; have HB6 : Hid (Below w5.heap.size w5 w6) := (by obtain ⟨q, rfl⟩ := hq; exact below_drewN (Below.refl _ _) q); clear hq y5))
            clear hex0 hli2
            have HO6 := hid (HO5.out.later HB6.out)
            have hnu := hid (numb_any HO6.out HI4.out)
            have hne := hid (fun (U : World) (hU : Below w6.heap.size w6 U) => next_any (HO6.out.later hU))
            have hlw : ((O.length : Int) != (L3.length : Int)) = false := by simp; omega
            go_wp2_with (first
              | (go_at_call 12; refine hnu.out.mono ?_; rintro e w7 ⟨p7, c7, rfl, ho7, hb7⟩; have HB7 := hid hb7; clear ho7 hb7)
              | (go_at_call 13; refine (hne.out _ HB7.out).mono ?_; rintro e w9 ⟨rfl, hw9⟩; obtain rfl := hw9.symm; clear hw9))
            refine ⟨⟨i + 1, x3, O, pa3, cap5, by omega, rfl, by congr 1; omega, rfl, HO6.out.later HB7.out, HI4.out, below_call (below_call HB5.out HB6.out) HB7.out⟩, by simp [intOf]; omega⟩
      · have hsp := hid (spawn_more HO.out HI.out hf)
        have hI3 : Iv M (x + 1) (L ++ [x]) := by
          have := HI.out.spawn
          have hff : ¬ fullP M x L = true := fun e => hf (of_decide_eq_true e)
          unfold spX spL at this
          rw [if_neg hff, if_neg hff] at this
          exact this
        have hq1 : ((L.length : Int) == M) = false := by simp; omega
        have hq2 : decide (x > 65535) = false := decide_eq_false (by omega)
        have HI3 := hid hI3
        clear hI3 hf
        have hli0 := hid (fun (U : World) (p : Option Addr) (c : Nat) (hU : Ob U w.heap.size g M (x + 1) p c (L ++ [x])) => live_any hU HI3.out x)
        rw [has_last] at hli0
        obtain ⟨L3, hL3⟩ : ∃ L3, L3 = L ++ [x] := ⟨_, rfl⟩
        have hl3 : (L3.length : Int) = (L.length : Int) + 1 := by rw [hL3]; simp
        rw [← hL3] at hsp HI3 hli0
        clear hL3
        obtain ⟨x3, hx3⟩ : ∃ x3, x3 = x + 1 := ⟨_, rfl⟩
        rw [← hx3] at hsp HI3 hli0
        go_upto_region 18 with (first
          | (go_at_call 9; refine hsp.out.mono ?_; rintro e w2 ⟨pa3, cap3, rfl, ho, hr⟩; have HO2 := hid ho; have HB2 := hid (hr.below HO.out HB.out); clear ho hr)
          | (go_at_call 7; refine (num_any _ _).mono ?_; rintro e w9 ⟨rfl, hw9⟩; obtain rfl := hw9.symm; clear hw9)
          | (go_at_call 10; refine (hli0.out _ _ _ HO2.out).mono ?_; rintro e w3 ⟨rfl, hq⟩; have HB2b : Hid (Below w2.heap.size w2 w3) := (by obtain ⟨q, rfl⟩ := hq; exact below_drewN (Below.refl _ _) q); clear hq))
        rw [← hx3, ← hl3]
        have HO3 := hid (HO2.out.later HB2b.out)
        have HB3 := hid (below_call HB2.out HB2b.out)
        clear hsp HO HI HB HB2 hli0 HO2 HB2b hq1 hq2 hx3 hl3 hml
        obtain ⟨b, o, rfl, hc⟩ := HE.out.plain (by omega)
        have y0 := hc i _ (ints_get E i (by omega))
        obtain ⟨n, hn⟩ : ∃ n, n = E[i]'(by omega) := ⟨_, rfl⟩
        rw [← hn] at y0
        have HY := hid (fun (U : World) (hU : Below w.heap.size w U) => cell_later hU y0)
        clear hc hn y0
        have hli := hid (live_any HO3.out HI3.out n)
        have y3 := HY.out _ HB3.out
        by_cases hn : n ∈ L3
        · have hcn : L3.contains n = true := by simpa using hn
          have hol := out_len HI3.out.rise hn
          have hex0 := hid (fun (U : World) (hU : Below w3.heap.size w3 U) => exit_any (HO3.out.later hU) HI3.out n)
          have hec : exC L3 n = 0 := by unfold exC; rw [if_pos hcn]
          rw [hec] at hex0
          rw [hcn] at hli
          have HI4 := hid (HI3.out.exit n)
          have hnn : (out L3 n).contains n = false := by simp [out]
          have hm2 := HI3.out.m2
          have hml := HI3.out.len
          clear hn hcn hec
          generalize hO : out L3 n = O at *
          go_upto_region 19 with (first | (go_at_call 10; refine hli.out.mono ?_; rintro e w4 ⟨rfl, hq⟩; have HB4 : Hid (Below w3.heap.size w3 w4) := (by obtain ⟨q, rfl⟩ := hq; exact below_drewN (Below.refl _ _) q); clear hq))
          have y4 := HY.out _ (below_call HB3.out HB4.out)
          clear y3 hli
          have hli2 := hid (fun (U : World) (c : Nat) (hU : Ob U w.heap.size g M x3 pa3 c O) => live_any hU HI4.out n)
          rw [hnn] at hli2
          go_upto_region 23 with (first
            | (go_at_call 7; refine (num_any _ _).mono ?_; rintro e w9 ⟨rfl, hw9⟩; obtain rfl := hw9.symm; clear hw9)
            | (go_at_call 11; refine (hex0.out _ HB4.out).mono ?_; rintro e w5 ⟨cap5, rfl, ho, hr⟩; have HO5 := hid ho; have HB5 := hid (hr.below (HO3.out.later HB4.out) (below_call HB3.out HB4.out)); have y5 := HY.out _ HB5.out; clear ho hr y4)
            | (go_at_call 10; refine (hli2.out _ _ HO5.out).mono ?_; rintro e w6 ⟨rfl, hq⟩; have HB6 : Hid (Below w5.heap.size w5 w6) := (by obtain ⟨q, rfl⟩ := hq; exact below_drewN (Below.refl _ _) q); clear hq y5))
          clear hex0 hli2
          have HO6 := hid (HO5.out.later HB6.out)
          have hnu := hid (numb_any HO6.out HI4.out)
          have hne := hid (fun (U : World) (hU : Below w6.heap.size w6 U) => next_any (HO6.out.later hU))
          have hlw : ((O.length : Int) != (L3.length : Int) - 1) = false := by simp; omega
          go_wp2_with (first
            | (go_at_call 12; refine hnu.out.mono ?_; rintro e w7 ⟨p7, c7, rfl, ho7, hb7⟩; have HB7 := hid hb7; clear ho7 hb7)
            | (go_at_call 13; refine (hne.out _ HB7.out).mono ?_; rintro e w9 ⟨rfl, hw9⟩; obtain rfl := hw9.symm; clear hw9))
          refine ⟨⟨i + 1, x3, O, pa3, cap5, by omega, rfl, by congr 1; omega, rfl, HO6.out.later HB7.out, HI4.out, below_call (below_call HB5.out HB6.out) HB7.out⟩, by simp [intOf]; omega⟩
        · have hcn : L3.contains n = false := by simpa using hn
          have hol : (out L3 n).length = L3.length := by rw [out_none hn]
          have hex0 := hid (fun (U : World) (hU : Below w3.heap.size w3 U) => exit_any (HO3.out.later hU) HI3.out n)
          have hec : exC L3 n = 20 := by unfold exC; rw [if_neg (by rw [hcn]; simp)]
          rw [hec] at hex0
          rw [hcn] at hli
          have HI4 := hid (HI3.out.exit n)
          have hnn : (out L3 n).contains n = false := by simp [out]
          have hm2 := HI3.out.m2
          have hml := HI3.out.len
          clear hn hcn hec
          generalize hO : out L3 n = O at *
          go_upto_region 19 with (first | (go_at_call 10; refine hli.out.mono ?_; rintro e w4 ⟨rfl, hq⟩; have HB4 : Hid (Below w3.heap.size w3 w4) := (by obtain ⟨q, rfl⟩ := hq; exact below_drewN (Below.refl _ _) q); clear hq))
          have y4 := HY.out _ (below_call HB3.out HB4.out)
          clear y3 hli
          have hli2 := hid (fun (U : World) (c : Nat) (hU : Ob U w.heap.size g M x3 pa3 c O) => live_any hU HI4.out n)
          rw [hnn] at hli2
          go_upto_region 23 with (first
            | (go_at_call 7; refine (num_any _ _).mono ?_; rintro e w9 ⟨rfl, hw9⟩; obtain rfl := hw9.symm; clear hw9)
            | (go_at_call 11; refine (hex0.out _ HB4.out).mono ?_; rintro e w5 ⟨cap5, rfl, ho, hr⟩; have HO5 := hid ho; have HB5 := hid (hr.below (HO3.out.later HB4.out) (below_call HB3.out HB4.out)); have y5 := HY.out _ HB5.out; clear ho hr y4)
            | (go_at_call 10; refine (hli2.out _ _ HO5.out).mono ?_; rintro e w6 ⟨rfl, hq⟩; have HB6 : Hid (Below w5.heap.size w5 w6) := (by obtain ⟨q, rfl⟩ := hq; exact below_drewN (Below.refl _ _) q); clear hq y5))
          clear hex0 hli2
          have HO6 := hid (HO5.out.later HB6.out)
          have hnu := hid (numb_any HO6.out HI4.out)
          have hne := hid (fun (U : World) (hU : Below w6.heap.size w6 U) => next_any (HO6.out.later hU))
          have hlw : ((O.length : Int) != (L3.length : Int)) = false := by simp; omega
          go_wp2_with (first
            | (go_at_call 12; refine hnu.out.mono ?_; rintro e w7 ⟨p7, c7, rfl, ho7, hb7⟩; have HB7 := hid hb7; clear ho7 hb7)
            | (go_at_call 13; refine (hne.out _ HB7.out).mono ?_; rintro e w9 ⟨rfl, hw9⟩; obtain rfl := hw9.symm; clear hw9))
          refine ⟨⟨i + 1, x3, O, pa3, cap5, by omega, rfl, by congr 1; omega, rfl, HO6.out.later HB7.out, HI4.out, below_call (below_call HB5.out HB6.out) HB7.out⟩, by simp [intOf]; omega⟩
    · obtain rfl : i = k := by omega
      have hd : decide ((i : Int) < (i : Int)) = false := by simp
      have hs1 := hid (setn_any HO.out HI.out (-1))
      have hs2 := hid (fun (U : World) (hU : Ob U w.heap.size g M x pa cap L) => setn_any hU HI.out 65537)
      rw [sn_lo, snx_lo] at hs1
      rw [sn_hi, snx_hi] at hs2
      go_wp2_with (first
        | (go_at_call 7; refine (num_any _ _).mono ?_; rintro e w9 ⟨rfl, hw9⟩; obtain rfl := hw9.symm; clear hw9)
        | (go_at_call 14; refine hs1.out.mono ?_; rintro e w2 ⟨rfl, ho, hr⟩; have HO2 := hid ho; have HB2 := hid (hr.below HO.out HB.out); clear ho hr hs1)
        | (go_at_call 14; refine (hs2.out _ HO2.out).mono ?_; rintro e w3 ⟨rfl, ho, hr⟩; have HB3 := hid (hr.below HO2.out HB2.out); clear ho hr hs2))
      go_ret
      exact ⟨ret_bool (by decide), HB3.out⟩
end Go.Proofs.Ytlkjieophdabpaa
