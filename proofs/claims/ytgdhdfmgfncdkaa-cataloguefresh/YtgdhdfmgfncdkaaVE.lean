import Derived.Test.YtgdhdfmgfncdkaaVD
namespace Go.Proofs.Ytgdhdfmgfncdkaa
open Go.RowKit Go.Shelf H
set_option linter.unusedVariables false

/-- A step of a script. -/
structure Sp where
  sec : Bool
  kd : Int
  n : Int
  c : Cp
  r : Int
/-- Its seven cells. -/
structure Sb (w : World) (b o : Nat) (s : Sp) : Prop where
  c0 : w.cell? ⟨b, o, none⟩ = some (.bool s.sec)
  c1 : w.cell? ⟨b, o + 1, none⟩ = some (.int .i64 s.kd)
  c2 : w.cell? ⟨b, o + 2, none⟩ = some (.int .i64 s.n)
  c3 : w.cell? ⟨b, o + 3, none⟩ = some (.int .i64 s.c.1)
  c4 : w.cell? ⟨b, o + 4, none⟩ = some (.int .u64 (s.c.2.1 : Int))
  c5 : w.cell? ⟨b, o + 5, none⟩ = some (.int .u64 (s.c.2.2 : Int))
  c6 : w.cell? ⟨b, o + 6, none⟩ = some (.int .i64 s.r)
theorem Sb.but {S : Nat → Prop} {w w' : World} {b o : Nat} {s : Sp} (hb : But S w w') (h : Sb w b o s) (hn : ¬ S b) : Sb w' b o s :=
  ⟨cell_but hb h.c0 hn, cell_but hb h.c1 hn, cell_but hb h.c2 hn, cell_but hb h.c3 hn, cell_but hb h.c4 hn, cell_but hb h.c5 hn, cell_but hb h.c6 hn⟩
theorem Sb.later {w w' : World} {b o : Nat} {s : Sp} (hb : Below w.heap.size w w') (h : Sb w b o s) : Sb w' b o s := h.but (S := fun _ => False) (But.of hb) (fun h => h)
theorem Sb.new (w : World) (s : Sp) : Sb (w.alloc (Obj.cells #[.bool s.sec, .int .i64 s.kd, .int .i64 s.n, .int .i64 s.c.1, .int .u64 (s.c.2.1 : Int), .int .u64 (s.c.2.2 : Int), .int .i64 s.r] 63)) w.heap.size 0 s :=
  ⟨by simp [go_sem], by simp [go_sem], by simp [go_sem], by simp [go_sem], by simp [go_sem], by simp [go_sem], by simp [go_sem]⟩
/-- A script of n steps. -/
structure Ss (w : World) (a : Option Addr) (n : Nat) (f : Nat → Sp) : Prop where
  at_ : 0 < n → ∃ b o, a = some ⟨b, o, none⟩ ∧ ∀ i, i < n → Sb w b (o + i * 7) (f i)
  ok : ∀ i, i < n → (f i).c.2.1 < B64 ∧ (f i).c.2.2 < B64
theorem Ss.later {w w' : World} {a : Option Addr} {n : Nat} {f : Nat → Sp} (h : Ss w a n f) (hb : Below w.heap.size w w') : Ss w' a n f :=
  ⟨fun h0 => by
    obtain ⟨b, o, e, hc⟩ := h.at_ h0
    exact ⟨b, o, e, fun i hi => (hc i hi).later hb⟩, h.ok⟩
/-- A catalogue's tokens and forest. -/
structure St where
  X : List Tk
  l : Fo
def Res.st (R : Res) : St := ⟨R.X, R.l⟩
def dropS (s : St) (n : Int) : St := if n ∈ nums s.l then ⟨zer s.X (G true s.l n), cuts s.l (G true s.l n)⟩ else s
/-- What a step of grown does. -/
def stepG (mo : Nat) (s : St) (p : Sp) : St :=
  if p.kd = 0 then (rootR mo s.X s.l p.c p.r).st else if p.kd = 1 then (childR mo s.X s.l (intoN p.n mo : Int) p.c p.r).st else if p.kd = 4 then dropS s (intoN p.n mo : Int) else s
def playG (mo : Nat) (f : Nat → Sp) : Nat → St
  | 0 => ⟨List.replicate mo tz, []⟩
  | k + 1 => stepG mo (playG mo f k) (f k)
/-- Drop as it changes the catalogue. -/
def Dropped (w : World) (A : Ad) (kn mo : Nat) (s : St) (n : Int) (e : Ending) (w' : World) : Prop :=
  ∃ a c, e = .returned (.tuple #[.slice a (if n ∈ nums s.l then G true s.l n else []).length c, .int .i64 (if n ∈ nums s.l then 0 else 20)]) ∧ Ow w' w.heap.size 33 3 a (if n ∈ nums s.l then G true s.l n else []).length c (caps ((if n ∈ nums s.l then G true s.l n else []).map (fun k => (tk s.X k).1))) ∧ Cat w' A kn mo (dropS s n).X (dropS s n).l ∧ But A.Wr w w'
theorem cdrop_any {w : World} {A : Ad} {kn mo : Nat} {X : List Tk} {l : Fo} (h : Cat w A kn mo X l) (n : Int) :
    Calls Try.prog 14 #[.pointer (some ⟨A.g, 0, none⟩), .int .i64 n] w (Dropped w A kn mo ⟨X, l⟩ n) := by
  unfold Dropped dropS
  by_cases hn : n ∈ nums l
  · simp only [if_pos hn]
    exact drop_ok h n hn
  · simp only [if_neg hn]
    exact (drop_bad h n hn).mono (fun e w' he => ⟨none, 0, he.1, Ow.nil _ _ _ _, h.later he.2, But.of he.2⟩)
/-- Behind grown. -/
def Grown (w : World) (kn mo : Nat) (s : St) (e : Ending) (w' : World) : Prop :=
  ∃ A : Ad, e = .returned (.pointer (some ⟨A.g, 0, none⟩)) ∧ Cat w' A kn mo s.X s.l ∧ (∀ k, A.All k → w.heap.size ≤ k) ∧ Below w.heap.size w w'
def GrowRel (w : World) (A : Ad) (kn mo n : Nat) (f : Nat → Sp) (t : Value) (w' : World) : Prop :=
  ∃ i : Nat, i ≤ n ∧ t = .int .i64 (i : Int) ∧ Cat w' A kn mo (playG mo f i).X (playG mo f i).l ∧ Below w.heap.size w w'
theorem intoN_in (x : Int) (mo : Nat) (w : World) (h1 : 1 ≤ mo) (h2 : mo ≤ 256) : Calls Try.prog 6 #[.int .i64 x, .int .i64 (mo : Int)] w fun e w' => e = .returned (.int .i64 (intoN x mo : Int)) ∧ w' = w := into_any x mo w (by omega) (by omega)
set_option maxRecDepth 100000 in
set_option maxHeartbeats 4000000 in
theorem grown_any (mo : Nat) (knob : Int) (a : Option Addr) (n cap : Nat) (f : Nat → Sp) (w : World) (hS : Ss w a n f) (h1 : 1 ≤ mo) (h2 : mo ≤ 256) (hn : n ≤ 9223372036854775807) :
    Calls Try.prog 7 #[.int .i64 (mo : Int), .int .i64 knob, .slice a n cap] w (Grown w (intoN knob 65) mo (playG mo f n)) := by
  have HS := hid hS
  have hkn : intoN knob 65 < 65 := intoN_lt knob (by omega)
  have hin := hid (into_any knob 65 w (by omega) (by omega))
  have hmo0 : ¬ ((mo : Int) = 0) := by omega
  clear hS
  generalize hk65 : intoN knob 65 = kn at *
  clear hk65
  go_enter Try.func7, Try.ntmps7
  go_upto_region 5 with (first | (go_at_call 19; refine (cnew_ok _ mo kn h1 h2 (by omega)).mono ?_; rintro e w1 ⟨A, rfl, hc1, hA1, hb1⟩; have HC1 := hid hc1; have HA := hid hA1; have HB1 := hid hb1; clear hc1 hA1 hb1) | (go_at_call 6; refine hin.out.mono ?_; rintro e w9 ⟨rfl, hw9⟩; obtain rfl := hw9.symm; clear hw9))
  go_loopw [9] (GrowRel w A kn mo n f) (fun t _ => n - (intOf t).toNat)
  case atStart => exact ⟨0, Nat.zero_le _, rfl, HC1.out, HB1.out⟩
  case round =>
    obtain ⟨i, hi, rfl, hC, hB⟩ := hrel
    by_cases hlt : i < n
    · obtain ⟨b, o, rfl, hc⟩ := (HS.out.later hB).at_ (by omega)
      have hok := HS.out.ok i hlt
      obtain ⟨s0, s1, s2, s3, s4, s5, s6⟩ := hc i hlt
      clear hc
      have HP : Hid (playG mo f (i + 1) = stepG mo (playG mo f i) (f i)) := rfl
      generalize hfi : f i = s at *
      clear hfi
      obtain ⟨X, l, hXl⟩ : ∃ X l, playG mo f i = ⟨X, l⟩ := ⟨_, _, rfl⟩
      rw [hXl] at hC HP
      clear hXl
      simp only at hC
      obtain ⟨sec, kd, sn, ⟨so, shi, slo⟩, sr⟩ := s
      simp only at s0 s1 s2 s3 s4 s5 s6 hok
      obtain ⟨w1, hw1⟩ : ∃ w1, w1 = wr.alloc (Obj.cells #[.bool sec, .int .i64 kd, .int .i64 sn, .int .i64 so, .int .u64 (shi : Int), .int .u64 (slo : Int), .int .i64 sr] 63) := ⟨_, rfl⟩
      have hB1 : Below wr.heap.size wr w1 := by rw [hw1]; exact below1 _ _
      obtain ⟨t0, t1, t2, t3, t4, t5, t6⟩ : Sb w1 wr.heap.size 0 ⟨sec, kd, sn, (so, shi, slo), sr⟩ := by rw [hw1]; exact Sb.new wr ⟨sec, kd, sn, (so, shi, slo), sr⟩
      simp only [Nat.zero_add] at t0 t1 t2 t3 t4 t5 t6
      have HC := hid (hC.later hB1)
      have hBw := below_call hB hB1
      have HBW := hid hBw
      have hwr : Hid (∀ k, A.Wr k → w.heap.size ≤ k) := fun k hk => HA.out k (.inr (.inr hk))
      have hnw : ¬ A.Wr wr.heap.size := fun hk => by have := hC.lt' _ hk; omega
      clear hC hB hBw hB1
      go_upto_region 8 with fail
      rw [← hw1]
      clear hw1 s0 s1 s2 s3 s4 s5 s6
      by_cases k0 : kd = 0
      · subst k0
        have HP1 : Hid (playG mo f (i + 1) = (rootR mo X l (so, shi, slo) sr).st) := by unfold Hid; rw [HP.out]; unfold stepG; rw [if_pos rfl]
        have hro := hid (croot_of HC.out (so, shi, slo) sr hok)
        go_wp2_with (first | (go_at_call 23; refine hro.out.mono ?_; rintro e w2 ⟨rfl, hc2, hb2⟩; have HC2 := hid hc2; have HB2 := hid (But.below HBW.out hb2 hwr.out); clear hc2 hb2))
        refine ⟨⟨i + 1, by omega, by go_num, by rw [HP1.out]; exact HC2.out, HB2.out⟩, by simp [intOf]; omega⟩
      · have b0 : (kd == 0) = false := by simp [k0]
        by_cases k1 : kd = 1
        · subst k1
          have HP1 : Hid (playG mo f (i + 1) = (childR mo X l (intoN sn mo : Int) (so, shi, slo) sr).st) := by unfold Hid; rw [HP.out]; unfold stepG; rw [if_neg (by simp), if_pos rfl]
          have hro := hid (fun W (hW : Below w1.heap.size w1 W) => child_of (HC.out.later hW) (intoN sn mo : Int) (so, shi, slo) sr hok)
          have hii := hid (fun W => into_any sn mo W (by omega) (by omega))
          generalize (intoN sn mo : Int) = sm at *
          have hCC : Hid (∀ U : World, But A.Wr w1 U → (U.cell? ⟨wr.heap.size, 2, none⟩ = some (.int .i64 sn) ∧ U.cell? ⟨wr.heap.size, 3, none⟩ = some (.int .i64 so) ∧ U.cell? ⟨wr.heap.size, 4, none⟩ = some (.int .u64 (shi : Int)) ∧ U.cell? ⟨wr.heap.size, 5, none⟩ = some (.int .u64 (slo : Int)) ∧ U.cell? ⟨wr.heap.size, 6, none⟩ = some (.int .i64 sr)) ∧ But A.Wr w1 U) := fun U hU =>
            ⟨⟨cell_but hU t2 hnw, cell_but hU t3 hnw, cell_but hU t4 hnw, cell_but hU t5 hnw, cell_but hU t6 hnw⟩, hU⟩
          go_upto_region 12 with fail
          go_region_held3 (fun U => (U.cell? ⟨wr.heap.size, 2, none⟩ = some (.int .i64 sn) ∧ U.cell? ⟨wr.heap.size, 3, none⟩ = some (.int .i64 so) ∧ U.cell? ⟨wr.heap.size, 4, none⟩ = some (.int .u64 (shi : Int)) ∧ U.cell? ⟨wr.heap.size, 5, none⟩ = some (.int .u64 (slo : Int)) ∧ U.cell? ⟨wr.heap.size, 6, none⟩ = some (.int .i64 sr)) ∧ But A.Wr w1 U) (first | exact hCC.out _ HB3.out | exact hCC.out _ HB2.out | exact hCC.out _ (But.of (Below.refl _ _).drew)) (first
            | (go_at_call 24; refine (hro.out _ HBQ.out).mono ?_; rintro e w3 ⟨rfl, hc3, hb3⟩; have HC3 := hid hc3; have HB3 := hid (HB2.out.trans hb3); clear hc3 hb3)
            | (go_at_call 6; refine (hii.out _).mono ?_; rintro e w2 ⟨rfl, hw2⟩; have HBQ : Hid (Below w1.heap.size w1 w2) := (by unfold Hid; rw [hw2]; exact (Below.refl _ _).drew); have HB2 := hid (But.of (S := A.Wr) HBQ.out); clear hw2))
          go_wp2
          refine ⟨⟨i + 1, by omega, by go_num, by rw [HP1.out]; exact HC3.out, But.below HBW.out HB3.out hwr.out⟩, by simp [intOf]; omega⟩
        · have b1 : (kd == 1) = false := by simp [k1]
          by_cases k4 : kd = 4
          · subst k4
            have HP1 : Hid (playG mo f (i + 1) = dropS ⟨X, l⟩ (intoN sn mo : Int)) := by unfold Hid; rw [HP.out]; unfold stepG; rw [if_neg (by simp), if_neg (by simp), if_pos rfl]
            have hro := hid (cdrop_any HC.out (intoN sn mo : Int))
            have hii := hid (into_any sn mo w1 (by omega) (by omega))
            generalize (intoN sn mo : Int) = sm at *
            go_wp2_with (first | (go_at_call 14; refine hro.out.mono ?_; rintro e w2 ⟨a2, c2, rfl, _, hc2, hb2⟩; have HC2 := hid hc2; have HB2 := hid (But.below HBW.out hb2 hwr.out); clear hc2 hb2) | (go_at_call 6; refine hii.out.mono ?_; rintro e w9 ⟨rfl, hw9⟩; obtain rfl := hw9.symm; clear hw9))
            refine ⟨⟨i + 1, by omega, by go_num, by rw [HP1.out]; exact HC2.out, HB2.out⟩, by simp [intOf]; omega⟩
          · have b4 : (kd == 4) = false := by simp [k4]
            have HP1 : Hid (playG mo f (i + 1) = ⟨X, l⟩) := by unfold Hid; rw [HP.out]; unfold stepG; simp only; rw [if_neg k0, if_neg k1, if_neg k4]
            go_wp2
            refine ⟨⟨i + 1, by omega, by go_num, by rw [HP1.out]; exact HC.out, HBW.out⟩, by simp [intOf]; omega⟩
    · obtain rfl : i = n := by omega
      have HCe := hid hC
      have HBe := hid hB
      clear hC hB
      go_wp2
      go_ret
      exact ⟨A, rfl, HCe.out, HA.out, HBe.out⟩
end Go.Proofs.Ytgdhdfmgfncdkaa
