import Derived.Test.YtlkjieophdabpaaT1
namespace Go.Proofs.Ytlkjieophdabpaa
open Go.RowKit
set_option linter.unusedVariables false

/-- A call's two cells. -/
structure Sb (w : World) (b o : Nat) (s : Int × Int) : Prop where
  c0 : w.cell? ⟨b, o, none⟩ = some (.int .i64 s.1)
  c1 : w.cell? ⟨b, o + 1, none⟩ = some (.int .i64 s.2)
theorem Sb.later {w w' : World} {b o : Nat} {s : Int × Int} (hb : Below w.heap.size w w') (h : Sb w b o s) : Sb w' b o s := ⟨cell_later hb h.c0, cell_later hb h.c1⟩
/-- A script of n calls. -/
def Ss (w : World) (a : Option Addr) (n : Nat) (f : Nat → Int × Int) : Prop := 0 < n → ∃ b o, a = some ⟨b, o, none⟩ ∧ ∀ i, i < n → Sb w b (o + i * 2) (f i)
theorem Ob.mono {w : World} {base b g : Nat} {m x : Int} {pa : Option Addr} {cap : Nat} {L : List Int} (h : Ob w base g m x pa cap L) (hb : b ≤ base) : Ob w b g m x pa cap L :=
  ⟨h.c0, h.c1, h.c2, h.own.mono hb, h.ap, Nat.le_trans hb h.lo⟩
/-- What calls of both may write. -/
def Two (g : Nat) (pa : Option Addr) (r : Nat) (pb : Option Addr) (k : Nat) : Prop := (k = g ∨ Blk pa k) ∨ (k = r ∨ Blk pb k)
theorem Duo.two_in {w : World} {base g r : Nat} {m x : Int} {pa : Option Addr} {ca : Nat} {pb : Option Addr} {cb : Nat} {L : List Int} (h : Duo w base g r m x pa ca pb cb L) : ∀ k, Two g pa r pb k → base ≤ k ∧ k < w.heap.size := fun k hk => by
  rcases hk with e | e
  · exact h.p.blk k e
  · exact h.q.blk k e
theorem Duo.step1 {w1 U w2 : World} {base g r : Nat} {m x : Int} {pa : Option Addr} {ca : Nat} {pb : Option Addr} {cb : Nat} {L : List Int} {x' : Int} {pa' : Option Addr} {ca' : Nat} {L' : List Int} (h : Duo w1 base g r m x pa ca pb cb L) (hU : Below w1.heap.size w1 U)
    (ho : Ob w2 base g m x' pa' ca' L') (hr : Rd U w2 g pa pa') : Ob w2 base r m x pb cb L ∧ Dj g pa' r pb ∧ But (Two g pa r pb) w1 w2 := by
  have hk := (h.later hU).one ho hr
  exact ⟨hk.1, hk.2, (But.of hU).trans (hr.but.mono (fun k e => .inl e))⟩
theorem Duo.step2 {w1 w2 w3 : World} {base g r : Nat} {m x : Int} {pa : Option Addr} {pb : Option Addr} {cb : Nat} {L : List Int} {x' : Int} {pa' : Option Addr} {ca' : Nat} {L' : List Int} {pb' : Option Addr} {cb' : Nat} (hp : Ob w2 base g m x' pa' ca' L') (hq : Ob w2 base r m x pb cb L) (hd : Dj g pa' r pb) (hT : But (Two g pa r pb) w1 w2)
    (ho : Ob w3 base r m x' pb' cb' L') (hr : Rd w2 w3 r pb pb') (hi : Iv m x' L') : Duo w3 base g r m x' pa' ca' pb' cb' L' ∧ But (Two g pa r pb) w1 w3 :=
  ⟨Duo.two hp hq hd ho hr hi, hT.trans (hr.but.mono (fun k e => .inr e))⟩
/-- The document's Spawn. -/
theorem rspawn_any {w : World} {base g : Nat} {m x : Int} {pa : Option Addr} {cap : Nat} {L : List Int} (h : Ob w base g m x pa cap L) (hi : Iv m x L) :
    Calls Try.prog 18 #[.pointer (some ⟨g, 0, none⟩)] w fun e w' => ∃ pa' cap', e = .returned (.tuple #[.int .i64 (spN m x L), .int .i64 (spC m x L)]) ∧ Ob w' base g m (spX m x L) pa' cap' (spL m x L) ∧ Rd w w' g pa pa' := by
  unfold spN spC spX spL
  by_cases hf : m ≤ (L.length : Int) ∨ 65535 < x
  · rw [if_pos (show fullP m x L = true from decide_eq_true hf), if_pos (show fullP m x L = true from decide_eq_true hf), if_pos (show fullP m x L = true from decide_eq_true hf), if_pos (show fullP m x L = true from decide_eq_true hf)]
    refine (rspawn_full h hf).mono ?_
    rintro e w' ⟨rfl, q, rfl⟩
    have hb := below_drewN (Below.refl w.heap.size w) q
    exact ⟨pa, cap, rfl, h.later hb, Rd.refl _ _ hb⟩
  · have hff : ¬ fullP m x L = true := fun e => hf (of_decide_eq_true e)
    rw [if_neg hff, if_neg hff, if_neg hff, if_neg hff]
    exact rspawn_more h hi hf
/-- How far the script has come. -/
def PlRel (w : World) (g r : Nat) (m : Int) (k : Nat) (s : Value) (w' : World) : Prop :=
  ∃ (i : Nat) (x : Int) (L : List Int) (pa : Option Addr) (ca : Nat) (pb : Option Addr) (cb : Nat), i ≤ k ∧ s = .int .i64 (i : Int) ∧ Duo w' w.heap.size g r m x pa ca pb cb L ∧ Below w.heap.size w w'
set_option maxRecDepth 100000 in
set_option maxHeartbeats 4000000 in
theorem scripts_ok (m : Int) (hm1 : 1 ≤ m) (hm2 : m ≤ 32) (a : Option Addr) (k c : Nat) (f : Nat → Int × Int) (w : World) (hS : Ss w a k f) (hk : k ≤ 9223372036854775807) :
    Calls Try.prog 5 #[.int .i64 m, .slice a k c] w fun e w' => e = .returned (.bool true) ∧ Below w.heap.size w w' := by
  have HS := hid hS
  have hn := hid (new_ok m w hm1 hm2)
  have hrn := hid (fun U : World => rnew_ok m U hm1 hm2)
  have HI : Hid (Iv m 1 [0]) := Iv.start hm1 hm2
  clear hS hm1 hm2
  go_enter Try.func5, Try.ntmps5
  go_upto_region 8 with (first
    | (go_at_call 6; refine hn.out.mono ?_; rintro e w1 ⟨g, pa, ca, rfl, ho, hb⟩; have HO1 := hid ho; have HB1 := hid hb; clear ho hb)
    | (go_at_call 17; refine (hrn.out w1).mono ?_; rintro e w2 ⟨r, pb, cb, rfl, ho, hb⟩; have HD2 : Hid (Duo w2 w.heap.size g r m 1 pa ca pb cb [0]) := ⟨HO1.out.later hb, ho.mono HB1.out.size, fun k h1 h2 => (by have h3 := (HO1.out.blk k h1).2; have h4 := (ho.blk k h2).1; omega), HI.out⟩; have HB2 := hid (below_call HB1.out hb); clear ho hb)
    | (go_at_call 7; refine (num_any _ _).mono ?_; rintro e w9 ⟨rfl, hw9⟩; obtain rfl := hw9.symm; clear hw9)
    | (go_at_call 8; refine (alive_any w2).mono ?_; rintro e w3 ⟨rfl, hb⟩; have HB3 := hid hb; clear hb))
  have H0 : Hid (PlRel w g r m k (.int .i64 0) w3) := ⟨0, 1, [0], pa, ca, pb, cb, Nat.zero_le _, rfl, HD2.out.later HB3.out, below_call HB2.out HB3.out⟩
  clear HO1 HB1 HB2 HB3 HD2 hn hrn HI
  go_loopw [9] (PlRel w g r m k) (fun t _ => k - (intOf t).toNat)
  case atStart => exact H0.out
  case round =>
    clear H0
    obtain ⟨i, x, L, pa, ca, pb, cb, hi, rfl, hD, hB⟩ := hrel
    have HD := hid hD
    have HB := hid hB
    clear hD hB
    by_cases hlt : i < k
    · have hd : decide ((i : Int) < (k : Int)) = true := decide_eq_true (by omega)
      obtain ⟨b, o, rfl, hc⟩ := HS.out (by omega)
      have hs := (hc i hlt).later HB.out
      have c0 := hs.c0
      have c1 := hs.c1
      clear hs hc
      generalize f i = s at c0 c1
      obtain ⟨kd, nn⟩ := s
      simp only at c0 c1
      go_upto_region 11 with fail
      obtain ⟨ob, hob⟩ : ∃ ob, ob = wr.heap.size := ⟨_, rfl⟩
      obtain ⟨w1, hw1⟩ : ∃ w1, w1 = wr.alloc (Obj.cells #[.int .i64 kd, .int .i64 nn] 45) := ⟨_, rfl⟩
      have HB1 : Hid (Below wr.heap.size wr w1) := by rw [hw1]; exact below1 _ _
      have d0 : w1.cell? ⟨ob, 0, none⟩ = some (.int .i64 kd) := by rw [hw1, hob]; simp [go_sem]
      have d1 : w1.cell? ⟨ob, 1, none⟩ = some (.int .i64 nn) := by rw [hw1, hob]; simp [go_sem]
      rw [← hw1, ← hob]
      have HC1 := hid d1
      have HD1 := hid (HD.out.later HB1.out)
      have HBw1 := hid (below_call HB.out HB1.out)
      have htw : Hid (∀ j, Two g pa r pb j → w.heap.size ≤ j) := fun j hj => (HD.out.two_in j hj).1
      have hnt : Hid (¬ Two g pa r pb ob) := fun e => by have := (HD.out.two_in ob e).2; omega
      clear hw1 hob c0 c1 HD HB HB1
      by_cases h1 : kd = 1
      · subst h1
        have hsp := hid (spawn_any HD1.out.p HD1.out.iv)
        have hrs := hid (fun (U : World) (hU : Ob U w.heap.size r m x pb cb L) => rspawn_any hU HD1.out.iv)
        have hiv := hid HD1.out.iv.spawn
        generalize spN m x L = sn at *
        generalize spC m x L = sc at *
        generalize spX m x L = x3 at *
        generalize spL m x L = L3 at *
        have hq1 : (sn != sn) = false := by simp
        have hq2 : (sc != sc) = false := by simp
        clear d1
        go_upto_region 23 with (first
          | (go_at_call 9; refine hsp.out.mono ?_; rintro e w2 ⟨pa2, ca2, rfl, ho, hr⟩; have HP2 := hid ho; have hs1 := HD1.out.step1 (Below.refl _ _) ho hr; have HQ2 := hid hs1.1; have HJ2 := hid hs1.2.1; have HT2 := hid hs1.2.2; clear ho hr hs1)
          | (go_at_call 18; refine (hrs.out _ HQ2.out).mono ?_; rintro e w3 ⟨pb3, cb3, rfl, ho, hr⟩; have hs2 := Duo.step2 HP2.out HQ2.out HJ2.out HT2.out ho hr hiv.out; have HD3 := hid hs2.1; have HT3 := hid hs2.2; clear ho hr hs2)
          | (go_at_call 7; refine (num_any _ _).mono ?_; rintro e w9 ⟨rfl, hw9⟩; obtain rfl := hw9.symm; clear hw9))
        clear hsp hrs HP2 HQ2 HJ2 HT2 d0
        have HB3 := hid (But.below HBw1.out HT3.out (fun j hj => htw.out j hj))
        have e1 := cell_but HT3.out HC1.out hnt.out
        have hto := hid (told_any HD3.out nn)
        clear hnt HC1
        go_wp2_with (first | (go_at_call 21; refine hto.out.mono ?_; rintro e w4 ⟨rfl, hb4⟩; have HB4 := hid hb4; clear hb4))
        exact ⟨⟨i + 1, _, _, _, _, _, _, by omega, rfl, HD3.out.later HB4.out, below_call HB3.out HB4.out⟩, by simp [intOf]; omega⟩
      · have hk1 : (kd == 1) = false := by simp [h1]
        by_cases h2 : kd = 2
        · subst h2
          have hex := hid (fun (U : World) (hU : Below w1.heap.size w1 U) => exit_any (HD1.out.p.later hU) HD1.out.iv nn)
          have hrx := hid (fun (U : World) (hU : Ob U w.heap.size r m x pb cb L) => rexit_any hU (by have := HD1.out.iv.len32; omega) nn)
          have hiv := hid (HD1.out.iv.exit nn)
          generalize exC L nn = cc at *
          generalize out L nn = L3 at *
          have hC : Hid (∀ U : World, But (Two g pa r pb) w1 U → (U.cell? ⟨ob, 1, none⟩ = some (.int .i64 nn)) ∧ But (Two g pa r pb) w1 U) := fun U hU => ⟨cell_but hU HC1.out hnt.out, hU⟩
          go_upto_region 18 with fail
          go_region_held3 (fun U => (U.cell? ⟨ob, 1, none⟩ = some (.int .i64 nn)) ∧ But (Two g pa r pb) w1 U) (first | exact hC.out _ HT3.out | exact hC.out _ HT2.out | exact hC.out _ (But.of (Below.refl _ _).drew)) (first
            | (go_at_call 11; refine (hex.out _ (Below.refl _ _).drew).mono ?_; rintro e w2 ⟨ca2, rfl, ho, hr⟩; have HP2 := hid ho; have hs1 := HD1.out.step1 (Below.refl _ _).drew ho hr; have HQ2 := hid hs1.1; have HJ2 := hid hs1.2.1; have HT2 := hid hs1.2.2; clear ho hr hs1)
            | (go_at_call 7; refine (num_any _ _).mono ?_; rintro e w9 ⟨rfl, hw9⟩; obtain rfl := hw9.symm; clear hw9)
            | (go_at_call 19; refine (hrx.out _ HQ2.out).mono ?_; rintro e w3 ⟨pb3, cb3, rfl, ho, hr⟩; have hs2 := Duo.step2 HP2.out HQ2.out HJ2.out HT2.out ho hr hiv.out; have HD3 := hid hs2.1; have HT3 := hid hs2.2; clear ho hr hs2))
          clear hex hrx hC HP2 HQ2 HJ2 HT2
          have hq1 : (cc != cc) = false := by simp
          go_upto_region 23 with fail
          clear d0 d1
          have HB3 := hid (But.below HBw1.out HT3.out (fun j hj => htw.out j hj))
          have e1 := cell_but HT3.out HC1.out hnt.out
          have hto := hid (told_any HD3.out nn)
          clear hnt HC1
          go_wp2_with (first | (go_at_call 21; refine hto.out.mono ?_; rintro e w4 ⟨rfl, hb4⟩; have HB4 := hid hb4; clear hb4))
          exact ⟨⟨i + 1, _, _, _, _, _, _, by omega, rfl, HD3.out.later HB4.out, below_call HB3.out HB4.out⟩, by simp [intOf]; omega⟩
        · have hk2 : (kd == 2) = false := by simp [h2]
          by_cases h3 : kd = 3
          · subst h3
            have hex := hid (fun (U : World) (hU : Below w1.heap.size w1 U) => setn_any (HD1.out.p.later hU) HD1.out.iv nn)
            have hrx := hid (fun (U : World) (hU : Ob U w.heap.size r m x pb cb L) => rsetn_any hU (by have := HD1.out.iv.len32; omega) nn)
            have hiv := hid (HD1.out.iv.next nn)
            generalize snC L nn = cc at *
            generalize snX x L nn = x3 at *
            have hC : Hid (∀ U : World, But (Two g pa r pb) w1 U → (U.cell? ⟨ob, 1, none⟩ = some (.int .i64 nn)) ∧ But (Two g pa r pb) w1 U) := fun U hU => ⟨cell_but hU HC1.out hnt.out, hU⟩
            go_upto_region 21 with fail
            go_region_held3 (fun U => (U.cell? ⟨ob, 1, none⟩ = some (.int .i64 nn)) ∧ But (Two g pa r pb) w1 U) (first | exact hC.out _ HT3.out | exact hC.out _ HT2.out | exact hC.out _ (But.of (Below.refl _ _).drew)) (first
              | (go_at_call 14; refine (hex.out _ (Below.refl _ _).drew).mono ?_; rintro e w2 ⟨rfl, ho, hr⟩; have HP2 := hid ho; have hs1 := HD1.out.step1 (Below.refl _ _).drew ho hr; have HQ2 := hid hs1.1; have HJ2 := hid hs1.2.1; have HT2 := hid hs1.2.2; clear ho hr hs1)
              | (go_at_call 7; refine (num_any _ _).mono ?_; rintro e w9 ⟨rfl, hw9⟩; obtain rfl := hw9.symm; clear hw9)
              | (go_at_call 20; refine (hrx.out _ HQ2.out).mono ?_; rintro e w3 ⟨rfl, ho, hr⟩; have hs2 := Duo.step2 HP2.out HQ2.out HJ2.out HT2.out ho hr hiv.out; have HD3 := hid hs2.1; have HT3 := hid hs2.2; clear ho hr hs2))
            clear hex hrx hC HP2 HQ2 HJ2 HT2
            have hq1 : (cc != cc) = false := by simp
            go_upto_region 23 with fail
            clear d0 d1
            have HB3 := hid (But.below HBw1.out HT3.out (fun j hj => htw.out j hj))
            have e1 := cell_but HT3.out HC1.out hnt.out
            have hto := hid (told_any HD3.out nn)
            clear hnt HC1
            go_wp2_with (first | (go_at_call 21; refine hto.out.mono ?_; rintro e w4 ⟨rfl, hb4⟩; have HB4 := hid hb4; clear hb4))
            exact ⟨⟨i + 1, _, _, _, _, _, _, by omega, rfl, HD3.out.later HB4.out, below_call HB3.out HB4.out⟩, by simp [intOf]; omega⟩
          · have hk3 : (kd == 3) = false := by simp [h3]
            go_upto_region 23 with fail
            obtain ⟨w3, hw3⟩ : ∃ w3, w3 = w1 := ⟨_, rfl⟩
            have HD3 := hid HD1.out
            have HT3 : Hid (But (Two g pa r pb) w1 w1) := But.refl _ _
            clear d0 d1 hw3
            have HB3 := hid (But.below HBw1.out HT3.out (fun j hj => htw.out j hj))
            have e1 := cell_but HT3.out HC1.out hnt.out
            have hto := hid (told_any HD3.out nn)
            clear hnt HC1
            go_wp2_with (first | (go_at_call 21; refine hto.out.mono ?_; rintro e w4 ⟨rfl, hb4⟩; have HB4 := hid hb4; clear hb4))
            exact ⟨⟨i + 1, _, _, _, _, _, _, by omega, rfl, HD3.out.later HB4.out, below_call HB3.out HB4.out⟩, by simp [intOf]; omega⟩
    · obtain rfl : i = k := by omega
      have hd : decide ((i : Int) < (i : Int)) = false := by simp
      have hto := hid (told_any HD.out 0)
      go_wp2_with (first | (go_at_call 21; refine hto.out.mono ?_; rintro e w4 ⟨rfl, hb4⟩; have HB4 := hid hb4; clear hb4))
      go_ret
      exact ⟨rfl, below_call HB.out HB4.out⟩
set_option maxRecDepth 100000 in
set_option maxHeartbeats 1000000 in
theorem scripts_bad (m : Int) (hm : m < 1 ∨ 32 < m) (a : Option Addr) (k c : Nat) (w : World) :
    Calls Try.prog 5 #[.int .i64 m, .slice a k c] w fun e w' => e = .returned (.bool true) ∧ Below w.heap.size w w' := by
  have hn := hid (new_bad m w hm)
  have hrn := hid (rnew_bad m w hm)
  clear hm
  go_enter Try.func5, Try.ntmps5
  go_wp2_with (first
    | (go_at_call 6; refine hn.out.mono ?_; rintro e w9 ⟨rfl, hw9⟩; obtain rfl := hw9.symm; clear hw9)
    | (go_at_call 17; refine hrn.out.mono ?_; rintro e w9 ⟨rfl, hw9⟩; obtain rfl := hw9.symm; clear hw9)
    | (go_at_call 7; refine (num_any _ _).mono ?_; rintro e w9 ⟨rfl, hw9⟩; obtain rfl := hw9.symm; clear hw9)
    | (go_at_call 8; refine (alive_any _).mono ?_; rintro e w3 ⟨rfl, hb⟩; have HB3 := hid hb; clear hb))
  go_ret
  exact ⟨rfl, HB3.out⟩
theorem scripts_law (m : Int) (a : Option Addr) (k c : Nat) (f : Nat → Int × Int) (w : World) (hS : Ss w a k f) (hk : k ≤ 9223372036854775807) :
    Calls Try.prog 5 #[.int .i64 m, .slice a k c] w fun e w' => e = .returned (.bool true) ∧ Below w.heap.size w w' := by
  by_cases hm : m < 1 ∨ 32 < m
  · exact scripts_bad m hm a k c w
  · exact scripts_ok m (by omega) (by omega) a k c f w hS hk
end Go.Proofs.Ytlkjieophdabpaa
