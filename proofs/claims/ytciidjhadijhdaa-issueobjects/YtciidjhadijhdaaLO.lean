import Derived.Test.YtciidjhadijhdaaIE
namespace Go.Proofs.Ytciidjhadijhdaa.D
open Go.RowKit
open Go.Proofs.Ytciidjhadijhdaa.H (B64)
set_option linter.unusedVariables false

def PutRel (w2 : World) (A : Ad) (r b k : Nat) (v : Value) (w' : World) : Prop :=
  ∃ (i : Nat) (X : List Tk) (l : Fo) (wh : Int → Int) (ev : Nat), i ≤ k ∧ v = .int .i64 (i : Int) ∧ Hid (Cats w2 w' A r b X l wh ev) ∧ ev ≤ i
def ObRel (w : World) (gp bp gr br n : Nat) (f : Nat → Nat) (W : Int) (A : Ad) (r b : Nat) (X : List Tk) (l : Fo) (wh : Int → Int) (ev m : Nat) (v : Value) (w' : World) : Prop :=
  ∃ i t : Nat, i ≤ m ∧ v = .int .i64 (i : Int) ∧ Hid (Two w w' gp bp gr br n f W t t) ∧ Hid (Cat w' A 64 64 X l) ∧ Hid (Rf w' r b 64 X l wh ev)
set_option maxRecDepth 100000 in
set_option maxHeartbeats 8000000 in
theorem objects_law (a x y : Option Addr) (n cap k kc m mc : Nat) (f : Nat → Nat) (F : Nat → Pt) (O : Nat → Int) (W : Int) (w : World) (hl : Ws w a n cap f) (hk : k < 9223372036854775807) (hm : m ≤ 9223372036854775807) (hP : Ps w x k F) (hO : Os w y m O) :
    Calls Try.prog 5 #[.slice a n cap, .int .i64 W, .slice x k kc, .slice y m mc] w fun e w' => e = .returned (.bool true) ∧ Below w.heap.size w w' := by
  have HP := hid hP
  have HO := hid hO
  have HL := hid hl
  have hcn : Hid (∀ V, Calls Try.prog 18 #[.int .i64 64, .int .i64 64] V (NewC V 64 64)) := fun V => cnew_ok V 64 64 (by omega) (by omega) (by omega)
  have hrn : Hid (∀ V, Calls Try.prog 19 #[.int .i64 64, .int .i64 64] V (RNew V 64)) := fun V => _root_.Go.Proofs.Ytciidjhadijhdaa.rnew_ok V 64 64 (by omega) (by omega) (by omega)
  clear hP hO
  by_cases hz : newE n W = 0
  · obtain ⟨h1, h2, h3⟩ := newE_zero hz
    have hne := hid (D.rnew_ok a n cap f W w hl h1 h2 h3)
    clear hz hl
    go_enter Try.func5, Try.ntmps5
    go_upto_region 2 with (first | (go_at_call 14; refine hne.out.mono ?_; rintro e w1 ⟨gr, br, rfl, hD, hg1, hg2, hB1⟩; have HD := hid hD; have HB1 := hid hB1; have HG2 := hid hg2; clear hD hB1 hg2))
    have hn2 := hid (D.new_ok a n cap f W w1 (HL.out.later HB1.out) h1 h2 h3)
    clear hne
    go_upto_region 3 with (first | (go_at_call 6; refine hn2.out.mono ?_; rintro e w2 ⟨gp, bp, rfl, hE, hp1, hp2, _, hB2⟩; have HE := hid hE; have HB2 := hid hB2; clear hE hB2))
    have HT : Hid (Two w w2 gp bp gr br n f W 0 0) := by
      have hrl := HD.out.lt
      exact ⟨HE.out, HD.out.later HB2.out, by omega, fun _ => by omega, fun h0 => by have := HD.out.lt2 h0; omega, Nat.le_trans HB1.out.size hp1, hg1, below_call HB1.out HB2.out⟩
    have HB02 := hid (below_call HB1.out HB2.out)
    have HP2 := hid (HP.out.later HB02.out)
    clear hn2 HD HE HB1 HB2 HG2 HP hp1 hp2 hg1
    go_upto_region 8 with (first | (go_at_call 7; refine (known_any _).mono ?_; rintro e w5 ⟨rfl, hB5⟩; have HCS := hid (HC4.out.later hB5); clear hB5) | (go_at_call 19; refine (hrn.out _).mono ?_; rintro e w4 ⟨r, b, rfl, hf4, hr4, hb4, hB4⟩; have HC4 : Hid (Cats w2 w4 A r b (List.replicate 64 tz) [] (fun _ => 0) 0) := ⟨HC3.out.later hB4, hf4, tim0, fun q hq => by have := HC3.out.lt q hq; exact ⟨by omega, by omega⟩, HA3.out, Nat.le_trans HB3.out.size hr4, Nat.le_trans HB3.out.size hb4, below_call HB3.out hB4⟩; clear hf4 hr4 hb4 hB4) | (go_at_call 18; refine (hcn.out _).mono ?_; rintro e w3 ⟨A, rfl, hc3, hA3, hb3⟩; have HC3 := hid hc3; have HA3 := hid hA3; have HB3 := hid hb3; clear hc3 hA3 hb3))
    clear HC3 HB3 HC4 hcn hrn
    go_loopw [17] (PutRel w2 A r b k) (fun v _ => k - (intOf v).toNat)
    case atStart => exact ⟨0, _, _, _, 0, Nat.zero_le _, rfl, HCS, Nat.le_refl _⟩
    case round =>
      obtain ⟨i, X, l, wh, ev, hi, rfl, hCS, hev⟩ := hrel
      by_cases hlt : i < k
      · obtain ⟨pb, po, rfl, hpl, hat⟩ := HP2.out.at_ (by omega)
        have hok := HP2.out.ok i hlt
        have HPB : Hid (Pb wr pb (po + i * 5) (F i)) := (hat i hlt).later hCS.out.bl
        obtain ⟨sp, so, shi, slo, sr, hF⟩ : ∃ p o h l r, F i = ⟨p, o, h, l, r⟩ := ⟨_, _, _, _, _, rfl⟩
        rw [hF] at HPB hok
        simp only at hok
        have hnw1 : Hid (¬ A.Wr pb) := fun hq => by have := hCS.out.hA pb (.inr (.inr hq)); omega
        have hnw2 : Hid (¬ (pb = r ∨ pb = b)) := fun hq => by have := hCS.out.hr; have := hCS.out.hb; omega
        have x0 := HPB.out.c0
        have hev2 : ev < 9223372036854775807 := by omega
        simp only at x0
        clear hat hF
        by_cases hp : sp < 0
        · have hro := hid (fun (U : World) (hU : Below wr.heap.size wr U) => croot_of (hCS.out.c.later hU) (so, shi, slo) sr hok)
          have HC1 : Hid (∀ U : World, But A.Wr wr U → (U.cell? ⟨pb, po + i * 5 + 1, none⟩ = some (.int .i64 so) ∧ U.cell? ⟨pb, po + i * 5 + 2, none⟩ = some (.int .u64 (shi : Int)) ∧ U.cell? ⟨pb, po + i * 5 + 3, none⟩ = some (.int .u64 (slo : Int)) ∧ U.cell? ⟨pb, po + i * 5 + 4, none⟩ = some (.int .i64 sr)) ∧ But A.Wr wr U) := fun U hU => by
            obtain ⟨q0, q1, q2, q3, q4⟩ := HPB.out.but hU hnw1.out
            exact ⟨⟨q1, q2, q3, q4⟩, hU⟩
          obtain ⟨R, hRR⟩ : ∃ R, R = rootR 64 X l (so, shi, slo) sr := ⟨_, rfl⟩
          rw [← hRR] at hro
          have HRR := hid hRR
          clear hRR
          go_upto_region 11 with fail
          go_region_held3 (fun U => (U.cell? ⟨pb, po + i * 5 + 1, none⟩ = some (.int .i64 so) ∧ U.cell? ⟨pb, po + i * 5 + 2, none⟩ = some (.int .u64 (shi : Int)) ∧ U.cell? ⟨pb, po + i * 5 + 3, none⟩ = some (.int .u64 (slo : Int)) ∧ U.cell? ⟨pb, po + i * 5 + 4, none⟩ = some (.int .i64 sr)) ∧ But A.Wr wr U) (first | exact HC1.out _ HBt.out | exact HC1.out _ (But.of (Below.refl _ _).drew)) (first
            | (go_at_call 20; refine (hro.out _ (Below.refl _ _).drew).mono ?_; rintro e w5 ⟨rfl, hc5, hb5⟩; have HC5 := hid hc5; have HBt := hid ((But.of (Below.refl wr.heap.size wr).drew).trans hb5); clear hc5 hb5))
          have hrr := hid (fun (U : World) (hU : Below w5.heap.size w5 U) => rroot_any ((hCS.out.one HBt.out).1.later hU) hCS.out.c.inv hCS.out.t hev2 (so, shi, slo) sr hok)
          rw [← HRR.out] at hrr
          have HPB5 := hid (HPB.out.but HBt.out hnw1.out)
          have HC2 : Hid (∀ U : World, But (fun j => j = r ∨ j = b) w5 U → (U.cell? ⟨pb, po + i * 5 + 1, none⟩ = some (.int .i64 so) ∧ U.cell? ⟨pb, po + i * 5 + 2, none⟩ = some (.int .u64 (shi : Int)) ∧ U.cell? ⟨pb, po + i * 5 + 3, none⟩ = some (.int .u64 (slo : Int)) ∧ U.cell? ⟨pb, po + i * 5 + 4, none⟩ = some (.int .i64 sr)) ∧ But (fun j => j = r ∨ j = b) w5 U) := fun U hU => by
            obtain ⟨q0, q1, q2, q3, q4⟩ := HPB5.out.but hU hnw2.out
            exact ⟨⟨q1, q2, q3, q4⟩, hU⟩
          clear hro HC1
          go_upto_region 12 with fail
          go_region_held3 (fun U => (U.cell? ⟨pb, po + i * 5 + 1, none⟩ = some (.int .i64 so) ∧ U.cell? ⟨pb, po + i * 5 + 2, none⟩ = some (.int .u64 (shi : Int)) ∧ U.cell? ⟨pb, po + i * 5 + 3, none⟩ = some (.int .u64 (slo : Int)) ∧ U.cell? ⟨pb, po + i * 5 + 4, none⟩ = some (.int .i64 sr)) ∧ But (fun j => j = r ∨ j = b) w5 U) (first | exact HC2.out _ HBu.out | exact HC2.out _ (But.of (Below.refl _ _).drew)) (first
            | (go_at_call 21; refine (hrr.out _ (Below.refl _ _).drew).mono ?_; rintro e w7 ⟨rfl, ⟨wh7, ev7, hf7, ht7, he7⟩, hb7⟩; have HF7 := hid hf7; have HT7 := hid ht7; have HBu := hid ((But.of (Below.refl w5.heap.size w5).drew).trans hb7); clear hf7 ht7 hb7))
          have HCS7 := hid (hCS.out.two HBt.out HC5.out HBu.out HF7.out HT7.out)
          clear hrr HC2 HC5 HF7 HT7 HBt HBu HRR
          go_wp2
          exact ⟨⟨i + 1, R.X, R.l, wh7, ev7, by omega, by go_num, HCS7, by omega⟩, by simp [intOf]; omega⟩
        · have hro := hid (fun (U : World) (hU : Below wr.heap.size wr U) => child_of (hCS.out.c.later hU) sp (so, shi, slo) sr hok)
          have HC1 : Hid (∀ U : World, But A.Wr wr U → (U.cell? ⟨pb, po + i * 5, none⟩ = some (.int .i64 sp) ∧ U.cell? ⟨pb, po + i * 5 + 1, none⟩ = some (.int .i64 so) ∧ U.cell? ⟨pb, po + i * 5 + 2, none⟩ = some (.int .u64 (shi : Int)) ∧ U.cell? ⟨pb, po + i * 5 + 3, none⟩ = some (.int .u64 (slo : Int)) ∧ U.cell? ⟨pb, po + i * 5 + 4, none⟩ = some (.int .i64 sr)) ∧ But A.Wr wr U) := fun U hU => by
            obtain ⟨q0, q1, q2, q3, q4⟩ := HPB.out.but hU hnw1.out
            exact ⟨⟨q0, q1, q2, q3, q4⟩, hU⟩
          obtain ⟨R, hRR⟩ : ∃ R, R = childR 64 X l sp (so, shi, slo) sr := ⟨_, rfl⟩
          rw [← hRR] at hro
          have HRR := hid hRR
          clear hRR
          go_upto_region 13 with fail
          go_region_held3 (fun U => (U.cell? ⟨pb, po + i * 5, none⟩ = some (.int .i64 sp) ∧ U.cell? ⟨pb, po + i * 5 + 1, none⟩ = some (.int .i64 so) ∧ U.cell? ⟨pb, po + i * 5 + 2, none⟩ = some (.int .u64 (shi : Int)) ∧ U.cell? ⟨pb, po + i * 5 + 3, none⟩ = some (.int .u64 (slo : Int)) ∧ U.cell? ⟨pb, po + i * 5 + 4, none⟩ = some (.int .i64 sr)) ∧ But A.Wr wr U) (first | exact HC1.out _ HBt.out | exact HC1.out _ (But.of (Below.refl _ _).drew)) (first
            | (go_at_call 22; refine (hro.out _ (Below.refl _ _).drew).mono ?_; rintro e w5 ⟨rfl, hc5, hb5⟩; have HC5 := hid hc5; have HBt := hid ((But.of (Below.refl wr.heap.size wr).drew).trans hb5); clear hc5 hb5))
          have hrr := hid (fun (U : World) (hU : Below w5.heap.size w5 U) => rchild_any ((hCS.out.one HBt.out).1.later hU) hCS.out.c.inv hCS.out.t hev2 sp (so, shi, slo) sr hok)
          rw [← HRR.out] at hrr
          have HPB5 := hid (HPB.out.but HBt.out hnw1.out)
          have HC2 : Hid (∀ U : World, But (fun j => j = r ∨ j = b) w5 U → (U.cell? ⟨pb, po + i * 5, none⟩ = some (.int .i64 sp) ∧ U.cell? ⟨pb, po + i * 5 + 1, none⟩ = some (.int .i64 so) ∧ U.cell? ⟨pb, po + i * 5 + 2, none⟩ = some (.int .u64 (shi : Int)) ∧ U.cell? ⟨pb, po + i * 5 + 3, none⟩ = some (.int .u64 (slo : Int)) ∧ U.cell? ⟨pb, po + i * 5 + 4, none⟩ = some (.int .i64 sr)) ∧ But (fun j => j = r ∨ j = b) w5 U) := fun U hU => by
            obtain ⟨q0, q1, q2, q3, q4⟩ := HPB5.out.but hU hnw2.out
            exact ⟨⟨q0, q1, q2, q3, q4⟩, hU⟩
          clear hro HC1
          go_upto_region 14 with fail
          go_region_held3 (fun U => (U.cell? ⟨pb, po + i * 5, none⟩ = some (.int .i64 sp) ∧ U.cell? ⟨pb, po + i * 5 + 1, none⟩ = some (.int .i64 so) ∧ U.cell? ⟨pb, po + i * 5 + 2, none⟩ = some (.int .u64 (shi : Int)) ∧ U.cell? ⟨pb, po + i * 5 + 3, none⟩ = some (.int .u64 (slo : Int)) ∧ U.cell? ⟨pb, po + i * 5 + 4, none⟩ = some (.int .i64 sr)) ∧ But (fun j => j = r ∨ j = b) w5 U) (first | exact HC2.out _ HBu.out | exact HC2.out _ (But.of (Below.refl _ _).drew)) (first
            | (go_at_call 23; refine (hrr.out _ (Below.refl _ _).drew).mono ?_; rintro e w7 ⟨rfl, ⟨wh7, ev7, hf7, ht7, he7⟩, hb7⟩; have HF7 := hid hf7; have HT7 := hid ht7; have HBu := hid ((But.of (Below.refl w5.heap.size w5).drew).trans hb7); clear hf7 ht7 hb7))
          have HCS7 := hid (hCS.out.two HBt.out HC5.out HBu.out HF7.out HT7.out)
          clear hrr HC2 HC5 HF7 HT7 HBt HBu HRR
          go_wp2
          exact ⟨⟨i + 1, R.X, R.l, wh7, ev7, by omega, by go_num, HCS7, by omega⟩, by simp [intOf]; omega⟩
      · obtain rfl : i = k := by omega
        have HX := hid hCS.out.t
        have hAg := hCS.out.hA
        have HAg := hid hAg
        have hrg := hCS.out.hr
        have hbg := hCS.out.hb
        have hgp := HT.out.p.lt
        have hgr := HT.out.r.lt
        have HT5 : Hid (Two w wr gp bp gr br n f W 0 0) := HT.out.later hCS.out.bl
        have HCa := hid hCS.out.c
        have HFa := hid hCS.out.f
        clear hCS hAg
        go_upto_region 16 with fail
        go_loopw [18] (ObRel w gp bp gr br n f W A r b X l wh ev m) (fun v _ => m - (intOf v).toNat)
        case atStart => exact ⟨0, 0, Nat.zero_le _, rfl, HT5, HCa, HFa⟩
        case round =>
          obtain ⟨j, t, hj, rfl, hT, hC, hF⟩ := hrel
          by_cases hlt2 : j < m
          · obtain ⟨ob_, oo, rfl, hat⟩ := HO.out.at_ (by omega)
            obtain ⟨o, ho⟩ : ∃ o, o = O j := ⟨_, rfl⟩
            have hco := hat j hlt2
            rw [← ho] at hco
            clear hat ho
            have HCO : Hid (∀ V, Below w.heap.size w V → V.cell? ⟨ob_, oo + j, none⟩ = some (.int .i64 o)) := fun V hV => cell_later hV hco
            have hc0 := HCO.out _ hT.out.hb
            have hd := hid (riof_any hT.out.r hF.out hC.out.inv HX.out o)
            obtain ⟨R, hRR⟩ : ∃ R, R = drawR (ofP X l o) (cutF f W) n 9 t := ⟨_, rfl⟩
            unfold RDrawn at hd
            rw [← hRR] at hd
            have HRR := hid hRR
            clear hRR hco
            go_upto_region 19 with (first | (go_at_call 24; refine hd.out.mono ?_; rintro e w6 ⟨rfl, hD6, hB6⟩; have HT6 := hid (hT.out.stepR hD6 hB6); have HC6 := hid (hC.out.but hB6 (fun q hq e => by have := HAg.out q hq; omega)); have HF6 := hid (hF.out.but hB6 (by show ¬ (r = gr); omega) (by show ¬ (b = gr); omega)); clear hD6 hB6))
            have hbl6 := below1 w6 (.cells #[.int .u64 (hiI R.1), .int .u64 (loI R.1)] 31)
            have X1 := hid (Box.new w6 (hiI R.1) (loI R.1))
            have HT7 := hid (HT6.out.later hbl6)
            have HC7 := hid (HC6.out.later hbl6)
            have HF7 := hid (HF6.out.later hbl6)
            have hc7 := HCO.out _ HT7.out.hb
            have hlp := HT6.out.p.lt
            have hd2 := hid (iof_any HT7.out.p (cutF_small HT7.out.r.small W n) HC7.out (fun q hq e => by have := HAg.out q hq; omega) o)
            unfold Drawn at hd2
            rw [← HRR.out] at hd2
            clear hd HT6 HC6 HF6 hT hC hF hbl6 hc0
            go_upto_region 20 with (first | (go_at_call 25; refine hd2.out.mono ?_; rintro e w8 ⟨rfl, hD8, hB8⟩; have HT8 := hid (HT7.out.stepP hD8 hB8); have HC8 := hid (HC7.out.but hB8 (fun q hq e => by have := HAg.out q hq; omega)); have HF8 := hid (HF7.out.but hB8 (by show ¬ (r = gp); omega) (by show ¬ (b = gp); omega)); have X2 := hid (X1.out.but hB8 (by show ¬ (w6.heap.size = gp); omega)); clear hD8 hB8))
            obtain ⟨w9, hw9⟩ : ∃ w9, w9 = w8.alloc (.cells #[.int .u64 (hiI R.1), .int .u64 (loI R.1)] 31) := ⟨_, rfl⟩
            have hbl8 : Below w8.heap.size w8 w9 := by rw [hw9]; exact below1 _ _
            have HT9 := hid (HT8.out.later hbl8)
            have HC9 := hid (HC8.out.later hbl8)
            have HF9 := hid (HF8.out.later hbl8)
            have X3 := hid (X2.out.later hbl8)
            have X4 : Hid (Box w9 w8.heap.size (hiI R.1) (loI R.1)) := by rw [hw9]; exact Box.new w8 (hiI R.1) (loI R.1)
            have hc9 := HCO.out _ HT9.out.hb
            rw [← hw9]
            clear hw9 hbl8 HT8 HC8 HF8 X1 X2 HT7 HC7 HF7 hd2 HRR hc7
            have hneq := fun V => wNe_self (hiI R.1) (loI R.1) V
            have HS : Hid (∀ U : World, Below w9.heap.size w9 U → (U.cell? ⟨w6.heap.size, 0, none⟩ = some (.int .u64 (hiI R.1)) ∧ U.cell? ⟨w6.heap.size, 1, none⟩ = some (.int .u64 (loI R.1)) ∧ U.cell? ⟨w8.heap.size, 0, none⟩ = some (.int .u64 (hiI R.1)) ∧ U.cell? ⟨w8.heap.size, 1, none⟩ = some (.int .u64 (loI R.1)) ∧ U.cell? ⟨ob_, oo + j, none⟩ = some (.int .i64 o)) ∧ Below w9.heap.size w9 U) := fun U hU =>
              ⟨⟨cell_later hU X3.out.1, cell_later hU X3.out.2, cell_later hU X4.out.1, cell_later hU X4.out.2, cell_later hU hc9⟩, hU⟩
            have k1 : Hid (∀ V, Below w9.heap.size w9 V → _) := fun V hV => taken_any gp bp n (cutF f W) R.2.2 V (HT9.out.p.later hV)
            have k2 : Hid (∀ V, Below w9.heap.size w9 V → _) := fun V hV => rtaken_any gr br n f W R.2.2 V (HT9.out.r.later hV)
            have k3 : Hid (∀ V, Below w9.heap.size w9 V → _) := fun V hV => ccount_any (HC9.out.later hV)
            have k4 : Hid (∀ V, Below w9.heap.size w9 V → _) := fun V hV => rcount_any (HF9.out.later hV) HC9.out.inv.ok
            have k5 : Hid (∀ V, Below w9.heap.size w9 V → _) := fun V hV => cin_any (HC9.out.later hV).cm o
            have k6 : Hid (∀ V, Below w9.heap.size w9 V → _) := fun V hV => rin_any (HF9.out.later hV) HC9.out.inv.ok o
            generalize (l.length : Int) = ln at k3 k4
            generalize (inN X l o : Int) = nn at k5 k6
            have q1 : (ln == ln) = true := by simp
            have q2 : (nn == nn) = true := by simp
            clear X3 X4 hc9
            obtain ⟨r3, hr3⟩ : ∃ r3, r3 = R.2.2 := ⟨_, rfl⟩
            rw [← hr3] at HT9 k1 k2
            clear hr3
            generalize hiI R.1 = r0 at *
            generalize loI R.1 = r1 at *
            generalize R.2.1 = r2 at *
            have q3 : (((r3 : Nat) : Int) == (r3 : Int)) = true := by simp
            have q4 : (r2 == r2) = true := by simp
            go_region_held3 (fun U => (U.cell? ⟨w6.heap.size, 0, none⟩ = some (.int .u64 r0) ∧ U.cell? ⟨w6.heap.size, 1, none⟩ = some (.int .u64 r1) ∧ U.cell? ⟨w8.heap.size, 0, none⟩ = some (.int .u64 r0) ∧ U.cell? ⟨w8.heap.size, 1, none⟩ = some (.int .u64 r1) ∧ U.cell? ⟨ob_, oo + j, none⟩ = some (.int .i64 o)) ∧ Below w9.heap.size w9 U) (first | exact HS.out _ hb6.out | exact HS.out _ hb5.out | exact HS.out _ hb4.out | exact HS.out _ hb3.out | exact HS.out _ hb2.out | exact HS.out _ hb1.out | exact HS.out _ (Below.refl _ _).drew) (first
              | (go_at_call 29; refine (k6.out _ hb5.out).mono ?_; rintro e v6 ⟨rfl, hv⟩; obtain rfl := hv.symm; have hb6 := hb5; clear hv)
              | (go_at_call 28; refine (k5.out _ hb4.out).mono ?_; rintro e v5 ⟨rfl, hv⟩; have hb5 := hid (below_call hb4.out hv); clear hv)
              | (go_at_call 27; refine (k4.out _ hb3.out).mono ?_; rintro e v4 ⟨rfl, hv⟩; obtain rfl := hv.symm; have hb4 := hb3; clear hv)
              | (go_at_call 26; refine (k3.out _ hb2.out).mono ?_; rintro e v3 ⟨rfl, hv⟩; obtain rfl := hv.symm; have hb3 := hb2; clear hv)
              | (go_at_call 17; refine (k2.out _ hb1.out).mono ?_; rintro e v2 ⟨rfl, hv⟩; obtain rfl := hv.symm; have hb2 := hb1; clear hv)
              | (go_at_call 10; refine (k1.out _ (Below.refl _ _).drew).mono ?_; rintro e v1 ⟨rfl, hv⟩; have hb1 : Hid (Below w9.heap.size w9 v1) := (by unfold Hid; rw [hv]; exact (Below.refl w9.heap.size w9).drew); clear hv))
            go_wp2
            exact ⟨⟨j + 1, r3, by omega, by go_num, HT9.out.later hb6.out, HC9.out.later hb6.out, HF9.out.later hb6.out⟩, by simp [intOf]; omega⟩
          · obtain rfl : j = m := by omega
            go_wp2
            go_ret
            exact ⟨rfl, hT.out.hb⟩
  · have hne := hid (D.rnew_bad a n cap W w hz)
    have hn2 := hid (D.new_bad a n cap W w hz)
    generalize newE n W = E at *
    have hz2 : (E == 0) = false := by simpa using hz
    have hz3 : (!(E != 0)) = false := by simpa using hz
    have hz4 : (E != 0) = true := by simpa using hz
    go_enter Try.func5, Try.ntmps5
    go_upto_region 3 with (first | (go_at_call 14; refine hne.out.mono ?_; rintro e w1 ⟨rfl, hw1⟩; obtain rfl := hw1.symm; clear hw1) | (go_at_call 6; refine hn2.out.mono ?_; rintro e w2 ⟨rfl, hw1⟩; obtain rfl := hw1.symm; clear hw1))
    obtain ⟨w2, hw2⟩ : ∃ w2, w2 = w := ⟨_, rfl⟩
    rw [← hw2]
    have HP2 : Hid (Ps w2 x k F) := by unfold Hid; rw [hw2]; exact HP.out
    have HBw : Hid (Below w.heap.size w w2) := by unfold Hid; rw [hw2]; exact Below.refl _ _
    clear hw2 hne hn2 HP HO HL
    go_upto_region 8 with (first | (go_at_call 7; refine (known_any _).mono ?_; rintro e w5 ⟨rfl, hB5⟩; have HCS := hid (HC4.out.later hB5); clear hB5) | (go_at_call 19; refine (hrn.out _).mono ?_; rintro e w4 ⟨r, b, rfl, hf4, hr4, hb4, hB4⟩; have HC4 : Hid (Cats w2 w4 A r b (List.replicate 64 tz) [] (fun _ => 0) 0) := ⟨HC3.out.later hB4, hf4, tim0, fun q hq => by have := HC3.out.lt q hq; exact ⟨by omega, by omega⟩, HA3.out, Nat.le_trans HB3.out.size hr4, Nat.le_trans HB3.out.size hb4, below_call HB3.out hB4⟩; clear hf4 hr4 hb4 hB4) | (go_at_call 18; refine (hcn.out _).mono ?_; rintro e w3 ⟨A, rfl, hc3, hA3, hb3⟩; have HC3 := hid hc3; have HA3 := hid hA3; have HB3 := hid hb3; clear hc3 hA3 hb3))
    clear HC3 HB3 HC4 hcn hrn
    go_loopw [17] (PutRel w2 A r b k) (fun v _ => k - (intOf v).toNat)
    case atStart => exact ⟨0, _, _, _, 0, Nat.zero_le _, rfl, HCS, Nat.le_refl _⟩
    case round =>
      obtain ⟨i, X, l, wh, ev, hi, rfl, hCS, hev⟩ := hrel
      by_cases hlt : i < k
      · obtain ⟨pb, po, rfl, hpl, hat⟩ := HP2.out.at_ (by omega)
        have hok := HP2.out.ok i hlt
        have HPB : Hid (Pb wr pb (po + i * 5) (F i)) := (hat i hlt).later hCS.out.bl
        obtain ⟨sp, so, shi, slo, sr, hF⟩ : ∃ p o h l r, F i = ⟨p, o, h, l, r⟩ := ⟨_, _, _, _, _, rfl⟩
        rw [hF] at HPB hok
        simp only at hok
        have hnw1 : Hid (¬ A.Wr pb) := fun hq => by have := hCS.out.hA pb (.inr (.inr hq)); omega
        have hnw2 : Hid (¬ (pb = r ∨ pb = b)) := fun hq => by have := hCS.out.hr; have := hCS.out.hb; omega
        have x0 := HPB.out.c0
        have hev2 : ev < 9223372036854775807 := by omega
        simp only at x0
        clear hat hF
        by_cases hp : sp < 0
        · have hro := hid (fun (U : World) (hU : Below wr.heap.size wr U) => croot_of (hCS.out.c.later hU) (so, shi, slo) sr hok)
          have HC1 : Hid (∀ U : World, But A.Wr wr U → (U.cell? ⟨pb, po + i * 5 + 1, none⟩ = some (.int .i64 so) ∧ U.cell? ⟨pb, po + i * 5 + 2, none⟩ = some (.int .u64 (shi : Int)) ∧ U.cell? ⟨pb, po + i * 5 + 3, none⟩ = some (.int .u64 (slo : Int)) ∧ U.cell? ⟨pb, po + i * 5 + 4, none⟩ = some (.int .i64 sr)) ∧ But A.Wr wr U) := fun U hU => by
            obtain ⟨q0, q1, q2, q3, q4⟩ := HPB.out.but hU hnw1.out
            exact ⟨⟨q1, q2, q3, q4⟩, hU⟩
          obtain ⟨R, hRR⟩ : ∃ R, R = rootR 64 X l (so, shi, slo) sr := ⟨_, rfl⟩
          rw [← hRR] at hro
          have HRR := hid hRR
          clear hRR
          go_upto_region 11 with fail
          go_region_held3 (fun U => (U.cell? ⟨pb, po + i * 5 + 1, none⟩ = some (.int .i64 so) ∧ U.cell? ⟨pb, po + i * 5 + 2, none⟩ = some (.int .u64 (shi : Int)) ∧ U.cell? ⟨pb, po + i * 5 + 3, none⟩ = some (.int .u64 (slo : Int)) ∧ U.cell? ⟨pb, po + i * 5 + 4, none⟩ = some (.int .i64 sr)) ∧ But A.Wr wr U) (first | exact HC1.out _ HBt.out | exact HC1.out _ (But.of (Below.refl _ _).drew)) (first
            | (go_at_call 20; refine (hro.out _ (Below.refl _ _).drew).mono ?_; rintro e w5 ⟨rfl, hc5, hb5⟩; have HC5 := hid hc5; have HBt := hid ((But.of (Below.refl wr.heap.size wr).drew).trans hb5); clear hc5 hb5))
          have hrr := hid (fun (U : World) (hU : Below w5.heap.size w5 U) => rroot_any ((hCS.out.one HBt.out).1.later hU) hCS.out.c.inv hCS.out.t hev2 (so, shi, slo) sr hok)
          rw [← HRR.out] at hrr
          have HPB5 := hid (HPB.out.but HBt.out hnw1.out)
          have HC2 : Hid (∀ U : World, But (fun j => j = r ∨ j = b) w5 U → (U.cell? ⟨pb, po + i * 5 + 1, none⟩ = some (.int .i64 so) ∧ U.cell? ⟨pb, po + i * 5 + 2, none⟩ = some (.int .u64 (shi : Int)) ∧ U.cell? ⟨pb, po + i * 5 + 3, none⟩ = some (.int .u64 (slo : Int)) ∧ U.cell? ⟨pb, po + i * 5 + 4, none⟩ = some (.int .i64 sr)) ∧ But (fun j => j = r ∨ j = b) w5 U) := fun U hU => by
            obtain ⟨q0, q1, q2, q3, q4⟩ := HPB5.out.but hU hnw2.out
            exact ⟨⟨q1, q2, q3, q4⟩, hU⟩
          clear hro HC1
          go_upto_region 12 with fail
          go_region_held3 (fun U => (U.cell? ⟨pb, po + i * 5 + 1, none⟩ = some (.int .i64 so) ∧ U.cell? ⟨pb, po + i * 5 + 2, none⟩ = some (.int .u64 (shi : Int)) ∧ U.cell? ⟨pb, po + i * 5 + 3, none⟩ = some (.int .u64 (slo : Int)) ∧ U.cell? ⟨pb, po + i * 5 + 4, none⟩ = some (.int .i64 sr)) ∧ But (fun j => j = r ∨ j = b) w5 U) (first | exact HC2.out _ HBu.out | exact HC2.out _ (But.of (Below.refl _ _).drew)) (first
            | (go_at_call 21; refine (hrr.out _ (Below.refl _ _).drew).mono ?_; rintro e w7 ⟨rfl, ⟨wh7, ev7, hf7, ht7, he7⟩, hb7⟩; have HF7 := hid hf7; have HT7 := hid ht7; have HBu := hid ((But.of (Below.refl w5.heap.size w5).drew).trans hb7); clear hf7 ht7 hb7))
          have HCS7 := hid (hCS.out.two HBt.out HC5.out HBu.out HF7.out HT7.out)
          clear hrr HC2 HC5 HF7 HT7 HBt HBu HRR
          go_wp2
          exact ⟨⟨i + 1, R.X, R.l, wh7, ev7, by omega, by go_num, HCS7, by omega⟩, by simp [intOf]; omega⟩
        · have hro := hid (fun (U : World) (hU : Below wr.heap.size wr U) => child_of (hCS.out.c.later hU) sp (so, shi, slo) sr hok)
          have HC1 : Hid (∀ U : World, But A.Wr wr U → (U.cell? ⟨pb, po + i * 5, none⟩ = some (.int .i64 sp) ∧ U.cell? ⟨pb, po + i * 5 + 1, none⟩ = some (.int .i64 so) ∧ U.cell? ⟨pb, po + i * 5 + 2, none⟩ = some (.int .u64 (shi : Int)) ∧ U.cell? ⟨pb, po + i * 5 + 3, none⟩ = some (.int .u64 (slo : Int)) ∧ U.cell? ⟨pb, po + i * 5 + 4, none⟩ = some (.int .i64 sr)) ∧ But A.Wr wr U) := fun U hU => by
            obtain ⟨q0, q1, q2, q3, q4⟩ := HPB.out.but hU hnw1.out
            exact ⟨⟨q0, q1, q2, q3, q4⟩, hU⟩
          obtain ⟨R, hRR⟩ : ∃ R, R = childR 64 X l sp (so, shi, slo) sr := ⟨_, rfl⟩
          rw [← hRR] at hro
          have HRR := hid hRR
          clear hRR
          go_upto_region 13 with fail
          go_region_held3 (fun U => (U.cell? ⟨pb, po + i * 5, none⟩ = some (.int .i64 sp) ∧ U.cell? ⟨pb, po + i * 5 + 1, none⟩ = some (.int .i64 so) ∧ U.cell? ⟨pb, po + i * 5 + 2, none⟩ = some (.int .u64 (shi : Int)) ∧ U.cell? ⟨pb, po + i * 5 + 3, none⟩ = some (.int .u64 (slo : Int)) ∧ U.cell? ⟨pb, po + i * 5 + 4, none⟩ = some (.int .i64 sr)) ∧ But A.Wr wr U) (first | exact HC1.out _ HBt.out | exact HC1.out _ (But.of (Below.refl _ _).drew)) (first
            | (go_at_call 22; refine (hro.out _ (Below.refl _ _).drew).mono ?_; rintro e w5 ⟨rfl, hc5, hb5⟩; have HC5 := hid hc5; have HBt := hid ((But.of (Below.refl wr.heap.size wr).drew).trans hb5); clear hc5 hb5))
          have hrr := hid (fun (U : World) (hU : Below w5.heap.size w5 U) => rchild_any ((hCS.out.one HBt.out).1.later hU) hCS.out.c.inv hCS.out.t hev2 sp (so, shi, slo) sr hok)
          rw [← HRR.out] at hrr
          have HPB5 := hid (HPB.out.but HBt.out hnw1.out)
          have HC2 : Hid (∀ U : World, But (fun j => j = r ∨ j = b) w5 U → (U.cell? ⟨pb, po + i * 5, none⟩ = some (.int .i64 sp) ∧ U.cell? ⟨pb, po + i * 5 + 1, none⟩ = some (.int .i64 so) ∧ U.cell? ⟨pb, po + i * 5 + 2, none⟩ = some (.int .u64 (shi : Int)) ∧ U.cell? ⟨pb, po + i * 5 + 3, none⟩ = some (.int .u64 (slo : Int)) ∧ U.cell? ⟨pb, po + i * 5 + 4, none⟩ = some (.int .i64 sr)) ∧ But (fun j => j = r ∨ j = b) w5 U) := fun U hU => by
            obtain ⟨q0, q1, q2, q3, q4⟩ := HPB5.out.but hU hnw2.out
            exact ⟨⟨q0, q1, q2, q3, q4⟩, hU⟩
          clear hro HC1
          go_upto_region 14 with fail
          go_region_held3 (fun U => (U.cell? ⟨pb, po + i * 5, none⟩ = some (.int .i64 sp) ∧ U.cell? ⟨pb, po + i * 5 + 1, none⟩ = some (.int .i64 so) ∧ U.cell? ⟨pb, po + i * 5 + 2, none⟩ = some (.int .u64 (shi : Int)) ∧ U.cell? ⟨pb, po + i * 5 + 3, none⟩ = some (.int .u64 (slo : Int)) ∧ U.cell? ⟨pb, po + i * 5 + 4, none⟩ = some (.int .i64 sr)) ∧ But (fun j => j = r ∨ j = b) w5 U) (first | exact HC2.out _ HBu.out | exact HC2.out _ (But.of (Below.refl _ _).drew)) (first
            | (go_at_call 23; refine (hrr.out _ (Below.refl _ _).drew).mono ?_; rintro e w7 ⟨rfl, ⟨wh7, ev7, hf7, ht7, he7⟩, hb7⟩; have HF7 := hid hf7; have HT7 := hid ht7; have HBu := hid ((But.of (Below.refl w5.heap.size w5).drew).trans hb7); clear hf7 ht7 hb7))
          have HCS7 := hid (hCS.out.two HBt.out HC5.out HBu.out HF7.out HT7.out)
          clear hrr HC2 HC5 HF7 HT7 HBt HBu HRR
          go_wp2
          exact ⟨⟨i + 1, R.X, R.l, wh7, ev7, by omega, by go_num, HCS7, by omega⟩, by simp [intOf]; omega⟩
      · obtain rfl : i = k := by omega
        have HBr0 : Hid (Below w.heap.size w wr) := HBw.out.trans (hCS.out.bl.mono HBw.out.size)
        clear hCS
        go_upto_region 16 with fail
        go_loopw [18] (fun v w' => v = .int .i64 0 ∧ Below w.heap.size w w') (fun _ _ => 0)
        case atStart => exact ⟨rfl, HBr0.out⟩
        case round =>
          obtain ⟨rfl, hBr⟩ := hrel
          have HBr := hid hBr
          clear hBr
          by_cases hk0 : (0 : Int) < (m : Int)
          · go_wp2
            go_ret
            exact ⟨rfl, HBr.out⟩
          · go_wp2
            go_ret
            exact ⟨rfl, HBr.out⟩
end Go.Proofs.Ytciidjhadijhdaa.D
