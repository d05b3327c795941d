import Derived.Test.YtgihdchgdejkhaaGreatDoorE4
namespace Go.Proofs.YtgihdchgdejkhaaGreatDoor.D
open Go.RowKit
open Go.Proofs.YtgihdchgdejkhaaGreatDoor.H (B64 Cp)
set_option linter.unusedVariables false

theorem checked_no (s : ByteArray) (c : Int) (hc : c ≠ 0) (w : World) : Calls Tryz.prog 51 #[.string s, .int .i64 c] w fun e w' => e = .returned (errV s c) ∧ w' = w := by
  have := checked_any s c w
  rwa [errO_ne hc] at this
theorem checked_ok (s : ByteArray) (w : World) : Calls Tryz.prog 51 #[.string s, .int .i64 0] w fun e w' => e = .returned .nilIface ∧ w' = w := checked_any s 0 w
theorem three_set {w : World} {b : Nat} {v0 v1 v2 : Value} (h0 : w.cell? ⟨b, 0, none⟩ = some v0) (h1 : w.cell? ⟨b, 1, none⟩ = some v1) (h2 : w.cell? ⟨b, 2, none⟩ = some v2) (x y z : Value) :
    (w.setCell ⟨b, 0, none⟩ x).cell? ⟨b, 0, none⟩ = some x ∧ ((w.setCell ⟨b, 0, none⟩ x).setCell ⟨b, 1, none⟩ y).cell? ⟨b, 1, none⟩ = some y ∧ (((w.setCell ⟨b, 0, none⟩ x).setCell ⟨b, 1, none⟩ y).setCell ⟨b, 2, none⟩ z).cell? ⟨b, 2, none⟩ = some z :=
  ⟨World.cell?_setCell_same _ _ _ h0, World.cell?_setCell_same _ _ _ (cell_set_ne h1 (by omega)), World.cell?_setCell_same _ _ _ (cell_set_ne (cell_set_ne h2 (by omega)) (by omega))⟩
/-- Behind a call that makes a token. -/
def Made (w : World) (H : Hd) (R : Ans) (e : Ending) (w' : World) : Prop :=
  (∃ st, e = .returned (.tuple #[cpV R.c, errO st R.code])) ∧ Tri w' H R.s ∧ But H.Wr w w'
/-- A result variable: zero. -/
structure Zc (w : World) (b : Nat) : Prop where
  c0 : Lies w ⟨b, 0, none⟩ (.int .i64 0)
  c1 : Lies w ⟨b, 1, none⟩ (.int .u64 0)
  c2 : Lies w ⟨b, 2, none⟩ (.int .u64 0)
theorem Zc.but {S : Nat → Prop} {w w' : World} {b : Nat} (h : Zc w b) (hb : But S w w') (hn : ¬ S b) : Zc w' b := ⟨h.c0.but hb hn, h.c1.but hb hn, h.c2.but hb hn⟩
theorem Zc.mk_ (w : World) : Zc (w.alloc (Obj.cells #[.int .i64 0, .int .u64 0, .int .u64 0] 36)) w.heap.size := ⟨⟨by simp [go_sem], by simp [go_sem]⟩, ⟨by simp [go_sem], by simp [go_sem]⟩, ⟨by simp [go_sem], by simp [go_sem]⟩⟩
/-- A capability in memory. -/
structure Cw (w : World) (b : Nat) (c : Cp) : Prop where
  c0 : w.cell? ⟨b, 0, none⟩ = some (.int .i64 c.1)
  c1 : w.cell? ⟨b, 1, none⟩ = some (.int .u64 (c.2.1 : Int))
  c2 : w.cell? ⟨b, 2, none⟩ = some (.int .u64 (c.2.2 : Int))
theorem Cw.but {S : Nat → Prop} {w w' : World} {b : Nat} {c : Cp} (h : Cw w b c) (hb : But S w w') (hn : ¬ S b) : Cw w' b c := ⟨cell_but hb h.c0 hn, cell_but hb h.c1 hn, cell_but hb h.c2 hn⟩
theorem Made.put {w w1 w2 : World} {H : Hd} {s : Sta} {b : Nat} (ht : Tri w2 H s) (hb : But H.Wr w w2) (ho : ∀ k, H.All k → k < w.heap.size) (hl : w.heap.size ≤ b) (c : Cp) :
    Tri (((w2.setCell ⟨b, 0, none⟩ (.int .i64 c.1)).setCell ⟨b, 1, none⟩ (.int .u64 (c.2.1 : Int))).setCell ⟨b, 2, none⟩ (.int .u64 (c.2.2 : Int))) H s ∧ But H.Wr w (((w2.setCell ⟨b, 0, none⟩ (.int .i64 c.1)).setCell ⟨b, 1, none⟩ (.int .u64 (c.2.1 : Int))).setCell ⟨b, 2, none⟩ (.int .u64 (c.2.2 : Int))) :=
  have ho' : ∀ k, H.All k → k < b := fun k hk => Nat.lt_of_lt_of_le (ho k hk) hl
  ⟨((ht.own ho' 0 _).own ho' 1 _).own ho' 2 _, ((hb.put (p := ⟨b, 0, none⟩) hl _).put (p := ⟨b, 1, none⟩) hl _).put (p := ⟨b, 2, none⟩) hl _⟩


set_option maxRecDepth 100000 in
set_option maxHeartbeats 2000000 in
theorem tokenR {w : World} {H : Hd} {s : Sta} (h : Tri w H s) (o : Int) (ho : (Lit.int .i64 o).wf = true) (D : Nat × Int × Nat) (R : Res) (mk : Nat)
    (hd : ∀ U, Below w.heap.size w U → Calls Tryz.prog 53 #[.pointer (some ⟨H.g, 0, none⟩)] U (Drew U H s D))
    (he : Q.may H.e H.a s.L o = 0 → D.2.1 = 0 → R.code = 0 ∧ ∀ U, But (· = H.g) w U → Tri U H { s with t := D.2.2 } → Calls Tryz.prog 54 #[cpV (cap o D.1), .pointer (some ⟨mk, 0, none⟩)] U (Entered U H { s with t := D.2.2 } R)) :
    Calls Tryz.prog 52 #[makV H, .int .i64 o, .func (.func 53) #[.pointer (some ⟨H.g, 0, none⟩)] #[], .func (.func 54) #[] #[.pointer (some ⟨mk, 0, none⟩)]] w
      (Made w H (if Q.may H.e H.a s.L o ≠ 0 then no s (Q.may H.e H.a s.L o) else if D.2.1 ≠ 0 then no { s with t := D.2.2 } D.2.1 else ⟨cap o D.1, 0, ⟨R.X, R.l, s.L ++ [o], D.2.2⟩⟩)) := by
  obtain ⟨w0, hw0⟩ : ∃ w0, w0 = (w.alloc (Obj.cells #[.pointer (some ⟨H.g, 0, none⟩), .pointer (some ⟨H.A.g, 0, none⟩), .pointer (some ⟨H.qg, 0, none⟩)] 81)).alloc (Obj.cells #[.int .i64 0, .int .u64 0, .int .u64 0] 36) := ⟨_, rfl⟩
  have hB0 : Below w.heap.size w w0 := by rw [hw0]; exact below2 _ _ _
  have hmk : Mk w0 w.heap.size H := by rw [hw0]; exact ⟨by simp [go_sem], by simp [go_sem], by simp [go_sem]⟩
  have hz : Zc w0 (w.heap.size + 1) := by rw [hw0]; exact ⟨⟨by simp [go_sem], by simp [go_sem]⟩, ⟨by simp [go_sem], by simp [go_sem]⟩, ⟨by simp [go_sem], by simp [go_sem]⟩⟩
  have hlt := h.old
  have hwr : ∀ k, H.Wr k → k < w.heap.size := fun k hk => hlt k (Hd.wr_all hk)
  have HM : Hid (∀ U, But H.Wr w0 U → U.cell? ⟨w.heap.size, 2, none⟩ = some (.pointer (some ⟨H.qg, 0, none⟩)) ∧ Zc U (w.heap.size + 1)) := fun U hU => ⟨(hmk.but hU (fun e => by have := hwr _ e; omega)).c2, hz.but hU (fun e => by have := hwr _ e; omega)⟩
  have y2 := hmk.c2
  have HZ := hid hz
  have HO := hid hlt
  have HW := hid hwr
  have HT := hid (h.later hB0)
  have HB0 := hid hB0
  have HMa := hid (Q.may_any (h.later hB0).qu o ho)
  have HD := hid hd
  clear h hB0 hmk hz hlt hwr hd
  unfold makV
  by_cases hm : Q.may H.e H.a s.L o = 0
  · rw [if_neg (by simp [hm])]
    rw [hm] at HMa
    by_cases hD : D.2.1 = 0
    · rw [if_neg (by simp [hD])]
      obtain ⟨hR, hE⟩ := he hm hD
      have HE := hid hE
      have HRc := hid hR
      have HAd : Hid (∀ (U : World) (X : List Tk) (l : Fo) (t : Nat), Tri U H ⟨X, l, s.L, t⟩ → Calls Tryz.prog 83 #[.pointer (some ⟨H.qg, 0, none⟩), .int .i64 o] U fun r w' => r = .returned (.int .i64 0) ∧ Q.Qu w' H.qg H.qb H.e H.a (s.L ++ [o]) ∧ But (fun k => k = H.qb) U w') := fun U X l t hT => by
        have := Q.add_any hT.qu o ho
        unfold Q.addL at this
        simp only [hm, if_true] at this
        exact this
      clear he hE hm hR
      unfold Drew at HD
      rw [hD] at HD
      clear hD
      unfold Entered at HE
      rw [HRc.out] at HE
      go_enter Tryz.func52, Tryz.ntmps52
      go_upto_region 1 with fail
      rw [← hw0]
      clear hw0
      go_upto_region 4 with (first
        | (go_at_call 51; refine (checked_ok _ _).mono ?_; rintro e w9 ⟨rfl, hw9⟩; obtain rfl := hw9.symm; clear hw9)
        | (go_at_call 82; refine HMa.out.mono ?_; rintro e w2 ⟨rfl, hb2⟩; have HB2 := hid (below_call HB0.out hb2); have HC2 := hid hb2; have HT2 := hid (HT.out.later hb2); clear hb2))
      go_upto_region 9 with (first
        | (go_at_call 51; refine (checked_ok _ _).mono ?_; rintro e w9 ⟨rfl, hw9⟩; obtain rfl := hw9.symm; clear hw9)
        | (go_at_call 53; refine (HD.out w2 HB2.out).mono ?_; rintro e w3 ⟨rfl, ht3, hb3⟩; have HT3 := hid ht3; have HB3 := hid ((But.of (S := H.Wr) HC2.out).trans (But.ofG hb3)); have HG3 := hid ((But.of HB2.out).trans hb3); clear ht3 hb3))
      obtain ⟨w4, hw4⟩ : ∃ w4, w4 = (w3.alloc (Obj.cells #[.int .u64 (hiI D.1), .int .u64 (loI D.1)] 30)).alloc (Obj.cells #[.int .i64 o, .int .u64 (hiI D.1), .int .u64 (loI D.1)] 36) := ⟨_, rfl⟩
      have hB4 : Below w3.heap.size w3 w4 := by rw [hw4]; exact below2 _ _ _
      have hc4 : Cw w4 (w3.heap.size + 1) (cap o D.1) := by rw [hw4]; exact ⟨by simp [go_sem, cap], by simp [go_sem, cap, hiI], by simp [go_sem, cap, loI]⟩
      have hs3 : w.heap.size ≤ w3.heap.size := Nat.le_trans HB0.out.size HB3.out.size
      have HY : Hid (∀ U, But H.Wr w4 U → Cw U (w3.heap.size + 1) (cap o D.1)) := fun U hU => hc4.but hU (fun e => by have := HW.out _ e; omega)
      have z0 : w4.cell? ⟨w3.heap.size + 1, 0, none⟩ = some (.int .i64 o) := hc4.c0
      have z1 : w4.cell? ⟨w3.heap.size + 1, 1, none⟩ = some (.int .u64 (hiI D.1)) := hc4.c1
      have z2 : w4.cell? ⟨w3.heap.size + 1, 2, none⟩ = some (.int .u64 (loI D.1)) := hc4.c2
      have HT4 := hid (HT3.out.later hB4)
      have HB4 := hid (HB3.out.call hB4)
      have HG4 := hid (HG3.out.call hB4)
      have HE4 : Hid (Calls Tryz.prog 54 #[.agg #[.int .i64 o, .int .u64 (hiI D.1), .int .u64 (loI D.1)], .pointer (some ⟨mk, 0, none⟩)] w4 _) := HE.out w4 HG4.out HT4.out
      clear hB4 hc4 hs3
      rw [← hw4]
      clear hw4
      go_upto_region 14 with (first
        | (go_at_call 83; refine (HAd.out w5 R.X R.l D.2.2 HT5.out).mono ?_; rintro e w6 ⟨rfl, hq6, hb6⟩; have HT6 := hid (HT5.out.count hb6 hq6); have HB6 := hid (HB5.out.trans (But.ofQ hb6)); have HC6 := hid (HC5.out.trans (But.ofQ hb6)); clear hq6 hb6; obtain ⟨u0, u1, u2⟩ := HY.out w6 HC6.out; obtain ⟨⟨v0, f0⟩, ⟨v1, f1⟩, ⟨v2, f2⟩⟩ := (HM.out w6 HB6.out).2)
        | (go_at_call 51; refine (checked_ok _ _).mono ?_; rintro e w9 ⟨rfl, hw9⟩; obtain rfl := hw9.symm; clear hw9)
        | (go_at_call 54; refine HE4.out.mono ?_; rintro e w5 ⟨rfl, ht5, hb5⟩; have HT5 := hid ht5; have HB5 := hid (HB4.out.trans (But.ofA hb5)); have HC5 := hid (But.ofA (H := H) hb5); clear ht5 hb5; have y5 := (HM.out w5 HB5.out).1))
      have u0' : w6.cell? ⟨w3.heap.size + 1, 0, none⟩ = some (.int .i64 o) := u0
      have u1' : w6.cell? ⟨w3.heap.size + 1, 1, none⟩ = some (.int .u64 (hiI D.1)) := u1
      have u2' : w6.cell? ⟨w3.heap.size + 1, 2, none⟩ = some (.int .u64 (loI D.1)) := u2
      clear u0 u1 u2
      go_wp2
      have HQ := hid (three_set v0 v1 v2 (.int .i64 o) (.int .u64 (hiI D.1)) (.int .u64 (loI D.1)))
      obtain ⟨hf1, hf2⟩ := Made.put (w1 := w) (b := w.heap.size + 1) HT6.out ((But.of HB0.out).trans HB6.out) HO.out (by omega) (cap o D.1)
      exact bodyPost_ret (v := .tuple #[.agg #[.int .i64 o, .int .u64 (hiI D.1), .int .u64 (loI D.1)], .nilIface]) (by simp [results, Tryz.results52, go_sem, HQ.out.1, HQ.out.2.1, HQ.out.2.2]) rfl ⟨⟨default, rfl⟩, hf1, hf2⟩
    · rw [if_pos hD]
      have HDn := hid hD
      unfold Drew at HD
      clear he hm hD
      go_enter Tryz.func52, Tryz.ntmps52
      go_upto_region 1 with fail
      rw [← hw0]
      clear hw0
      go_upto_region 4 with (first
        | (go_at_call 51; refine (checked_ok _ _).mono ?_; rintro e w9 ⟨rfl, hw9⟩; obtain rfl := hw9.symm; clear hw9)
        | (go_at_call 82; refine HMa.out.mono ?_; rintro e w2 ⟨rfl, hb2⟩; have HB2 := hid (below_call HB0.out hb2); have HC2 := hid hb2; have HT2 := hid (HT.out.later hb2); clear hb2))
      go_upto_region 7 with (first
        | (go_at_call 51; refine (checked_no _ _ HDn.out _).mono ?_; unfold errV; rintro e w9 ⟨rfl, hw9⟩; obtain rfl := hw9.symm; clear hw9)
        | (go_at_call 53; refine (HD.out w2 HB2.out).mono ?_; rintro e w3 ⟨rfl, ht3, hb3⟩; have HT3 := hid ht3; have HB3 := hid ((But.of (S := H.Wr) HC2.out).trans (But.ofG hb3)); have hbw := HB3.out.alloc (.cells #[.int .u64 (hiI D.1), .int .u64 (loI D.1)] 30); have HT4 := hid (ht3.later (below1 _ (.cells #[.int .u64 (hiI D.1), .int .u64 (loI D.1)] 30))); have HB4 := hid hbw; obtain ⟨⟨v0, f0⟩, ⟨v1, f1⟩, ⟨v2, f2⟩⟩ := (HM.out _ hbw).2; clear ht3 hb3 hbw))
      go_wp2
      have HQ := hid (three_set v0 v1 v2 (.int .i64 0) (.int .u64 0) (.int .u64 0))
      obtain ⟨hf1, hf2⟩ := Made.put (w1 := w) (b := w.heap.size + 1) HT4.out ((But.of HB0.out).trans HB4.out) HO.out (by omega) (0, 0, 0)
      exact bodyPost_ret (v := .tuple #[.agg #[.int .i64 0, .int .u64 0, .int .u64 0], errV _ _]) (by simp [results, Tryz.results52, go_sem, HQ.out.1, HQ.out.2.1, HQ.out.2.2]; rfl) rfl ⟨⟨_, by rw [show (no { s with t := D.2.2 } D.2.1).code = D.2.1 from rfl, errO_ne HDn.out]; rfl⟩, hf1, hf2⟩
  · rw [if_pos hm]
    have HMn := hid hm
    clear he hm
    go_enter Tryz.func52, Tryz.ntmps52
    go_upto_region 1 with fail
    rw [← hw0]
    clear hw0
    go_upto_region 3 with (first
        | (go_at_call 51; refine (checked_no _ _ HMn.out _).mono ?_; unfold errV; rintro e w9 ⟨rfl, hw9⟩; obtain rfl := hw9.symm; clear hw9)
        | (go_at_call 82; refine HMa.out.mono ?_; rintro e w2 ⟨rfl, hb2⟩; have HB2 := hid (below_call HB0.out hb2); have HC2 := hid hb2; have HT2 := hid (HT.out.later hb2); obtain ⟨⟨v0, f0⟩, ⟨v1, f1⟩, ⟨v2, f2⟩⟩ := (HM.out w2 (But.of hb2)).2; clear hb2))
    go_wp2
    have HQ := hid (three_set v0 v1 v2 (.int .i64 0) (.int .u64 0) (.int .u64 0))
    obtain ⟨hf1, hf2⟩ := Made.put (w1 := w) (b := w.heap.size + 1) HT2.out (But.of HB2.out) HO.out (by omega) (0, 0, 0)
    exact bodyPost_ret (v := .tuple #[.agg #[.int .i64 0, .int .u64 0, .int .u64 0], errV _ _]) (by simp [results, Tryz.results52, go_sem, HQ.out.1, HQ.out.2.1, HQ.out.2.2]; rfl) rfl ⟨⟨_, by rw [show (no s (Q.may H.e H.a s.L o)).code = Q.may H.e H.a s.L o from rfl, errO_ne HMn.out]; rfl⟩, hf1, hf2⟩
end Go.Proofs.YtgihdchgdejkhaaGreatDoor.D
namespace Go.Proofs.YtgihdchgdejkhaaGreatDoor.D
open Go.RowKit
open Go.Proofs.YtgihdchgdejkhaaGreatDoor.H (B64 Cp)
set_option linter.unusedVariables false

set_option maxRecDepth 100000 in
set_option maxHeartbeats 2000000 in
theorem tokenC {w : World} {H : Hd} {s : Sta} (h : Tri w H s) (o : Int) (ho : (Lit.int .i64 o).wf = true) (D : Nat × Int × Nat) (R : Res) (mk pc nb rb : Nat)
    (hd : ∀ U, Below w.heap.size w U → Calls Tryz.prog 58 #[.pointer (some ⟨mk, 0, none⟩), .pointer (some ⟨pc, 0, none⟩)] U (Drew U H s D))
    (he : Q.may H.e H.a s.L o = 0 → D.2.1 = 0 → R.code = 0 ∧ ∀ U, But (· = H.g) w U → Tri U H { s with t := D.2.2 } → Calls Tryz.prog 60 #[cpV (cap o D.1), .pointer (some ⟨mk, 0, none⟩), .pointer (some ⟨nb, 0, none⟩), .pointer (some ⟨rb, 0, none⟩)] U (Entered U H { s with t := D.2.2 } R)) :
    Calls Tryz.prog 52 #[makV H, .int .i64 o, .func (.func 58) #[] #[.pointer (some ⟨mk, 0, none⟩), .pointer (some ⟨pc, 0, none⟩)], .func (.func 60) #[] #[.pointer (some ⟨mk, 0, none⟩), .pointer (some ⟨nb, 0, none⟩), .pointer (some ⟨rb, 0, none⟩)]] w
      (Made w H (if Q.may H.e H.a s.L o ≠ 0 then no s (Q.may H.e H.a s.L o) else if D.2.1 ≠ 0 then no { s with t := D.2.2 } D.2.1 else ⟨cap o D.1, 0, ⟨R.X, R.l, s.L ++ [o], D.2.2⟩⟩)) := by
  obtain ⟨w0, hw0⟩ : ∃ w0, w0 = (w.alloc (Obj.cells #[.pointer (some ⟨H.g, 0, none⟩), .pointer (some ⟨H.A.g, 0, none⟩), .pointer (some ⟨H.qg, 0, none⟩)] 81)).alloc (Obj.cells #[.int .i64 0, .int .u64 0, .int .u64 0] 36) := ⟨_, rfl⟩
  have hB0 : Below w.heap.size w w0 := by rw [hw0]; exact below2 _ _ _
  have hmk : Mk w0 w.heap.size H := by rw [hw0]; exact ⟨by simp [go_sem], by simp [go_sem], by simp [go_sem]⟩
  have hz : Zc w0 (w.heap.size + 1) := by rw [hw0]; exact ⟨⟨by simp [go_sem], by simp [go_sem]⟩, ⟨by simp [go_sem], by simp [go_sem]⟩, ⟨by simp [go_sem], by simp [go_sem]⟩⟩
  have hlt := h.old
  have hwr : ∀ k, H.Wr k → k < w.heap.size := fun k hk => hlt k (Hd.wr_all hk)
  have HM : Hid (∀ U, But H.Wr w0 U → U.cell? ⟨w.heap.size, 2, none⟩ = some (.pointer (some ⟨H.qg, 0, none⟩)) ∧ Zc U (w.heap.size + 1)) := fun U hU => ⟨(hmk.but hU (fun e => by have := hwr _ e; omega)).c2, hz.but hU (fun e => by have := hwr _ e; omega)⟩
  have y2 := hmk.c2
  have HZ := hid hz
  have HO := hid hlt
  have HW := hid hwr
  have HT := hid (h.later hB0)
  have HB0 := hid hB0
  have HMa := hid (Q.may_any (h.later hB0).qu o ho)
  have HD := hid hd
  clear h hB0 hmk hz hlt hwr hd
  unfold makV
  by_cases hm : Q.may H.e H.a s.L o = 0
  · rw [if_neg (by simp [hm])]
    rw [hm] at HMa
    by_cases hD : D.2.1 = 0
    · rw [if_neg (by simp [hD])]
      obtain ⟨hR, hE⟩ := he hm hD
      have HE := hid hE
      have HRc := hid hR
      have HAd : Hid (∀ (U : World) (X : List Tk) (l : Fo) (t : Nat), Tri U H ⟨X, l, s.L, t⟩ → Calls Tryz.prog 83 #[.pointer (some ⟨H.qg, 0, none⟩), .int .i64 o] U fun r w' => r = .returned (.int .i64 0) ∧ Q.Qu w' H.qg H.qb H.e H.a (s.L ++ [o]) ∧ But (fun k => k = H.qb) U w') := fun U X l t hT => by
        have := Q.add_any hT.qu o ho
        unfold Q.addL at this
        simp only [hm, if_true] at this
        exact this
      clear he hE hm hR
      unfold Drew at HD
      rw [hD] at HD
      clear hD
      unfold Entered at HE
      rw [HRc.out] at HE
      go_enter Tryz.func52, Tryz.ntmps52
      go_upto_region 1 with fail
      rw [← hw0]
      clear hw0
      go_upto_region 4 with (first
        | (go_at_call 51; refine (checked_ok _ _).mono ?_; rintro e w9 ⟨rfl, hw9⟩; obtain rfl := hw9.symm; clear hw9)
        | (go_at_call 82; refine HMa.out.mono ?_; rintro e w2 ⟨rfl, hb2⟩; have HB2 := hid (below_call HB0.out hb2); have HC2 := hid hb2; have HT2 := hid (HT.out.later hb2); clear hb2))
      go_upto_region 9 with (first
        | (go_at_call 51; refine (checked_ok _ _).mono ?_; rintro e w9 ⟨rfl, hw9⟩; obtain rfl := hw9.symm; clear hw9)
        | (go_at_call 58; refine (HD.out w2 HB2.out).mono ?_; rintro e w3 ⟨rfl, ht3, hb3⟩; have HT3 := hid ht3; have HB3 := hid ((But.of (S := H.Wr) HC2.out).trans (But.ofG hb3)); have HG3 := hid ((But.of HB2.out).trans hb3); clear ht3 hb3))
      obtain ⟨w4, hw4⟩ : ∃ w4, w4 = (w3.alloc (Obj.cells #[.int .u64 (hiI D.1), .int .u64 (loI D.1)] 30)).alloc (Obj.cells #[.int .i64 o, .int .u64 (hiI D.1), .int .u64 (loI D.1)] 36) := ⟨_, rfl⟩
      have hB4 : Below w3.heap.size w3 w4 := by rw [hw4]; exact below2 _ _ _
      have hc4 : Cw w4 (w3.heap.size + 1) (cap o D.1) := by rw [hw4]; exact ⟨by simp [go_sem, cap], by simp [go_sem, cap, hiI], by simp [go_sem, cap, loI]⟩
      have hs3 : w.heap.size ≤ w3.heap.size := Nat.le_trans HB0.out.size HB3.out.size
      have HY : Hid (∀ U, But H.Wr w4 U → Cw U (w3.heap.size + 1) (cap o D.1)) := fun U hU => hc4.but hU (fun e => by have := HW.out _ e; omega)
      have z0 : w4.cell? ⟨w3.heap.size + 1, 0, none⟩ = some (.int .i64 o) := hc4.c0
      have z1 : w4.cell? ⟨w3.heap.size + 1, 1, none⟩ = some (.int .u64 (hiI D.1)) := hc4.c1
      have z2 : w4.cell? ⟨w3.heap.size + 1, 2, none⟩ = some (.int .u64 (loI D.1)) := hc4.c2
      have HT4 := hid (HT3.out.later hB4)
      have HB4 := hid (HB3.out.call hB4)
      have HG4 := hid (HG3.out.call hB4)
      have HE4 : Hid (Calls Tryz.prog 60 #[.agg #[.int .i64 o, .int .u64 (hiI D.1), .int .u64 (loI D.1)], .pointer (some ⟨mk, 0, none⟩), .pointer (some ⟨nb, 0, none⟩), .pointer (some ⟨rb, 0, none⟩)] w4 _) := HE.out w4 HG4.out HT4.out
      clear hB4 hc4 hs3
      rw [← hw4]
      clear hw4
      go_upto_region 14 with (first
        | (go_at_call 83; refine (HAd.out w5 R.X R.l D.2.2 HT5.out).mono ?_; rintro e w6 ⟨rfl, hq6, hb6⟩; have HT6 := hid (HT5.out.count hb6 hq6); have HB6 := hid (HB5.out.trans (But.ofQ hb6)); have HC6 := hid (HC5.out.trans (But.ofQ hb6)); clear hq6 hb6; obtain ⟨u0, u1, u2⟩ := HY.out w6 HC6.out; obtain ⟨⟨v0, f0⟩, ⟨v1, f1⟩, ⟨v2, f2⟩⟩ := (HM.out w6 HB6.out).2)
        | (go_at_call 51; refine (checked_ok _ _).mono ?_; rintro e w9 ⟨rfl, hw9⟩; obtain rfl := hw9.symm; clear hw9)
        | (go_at_call 60; refine HE4.out.mono ?_; rintro e w5 ⟨rfl, ht5, hb5⟩; have HT5 := hid ht5; have HB5 := hid (HB4.out.trans (But.ofA hb5)); have HC5 := hid (But.ofA (H := H) hb5); clear ht5 hb5; have y5 := (HM.out w5 HB5.out).1))
      have u0' : w6.cell? ⟨w3.heap.size + 1, 0, none⟩ = some (.int .i64 o) := u0
      have u1' : w6.cell? ⟨w3.heap.size + 1, 1, none⟩ = some (.int .u64 (hiI D.1)) := u1
      have u2' : w6.cell? ⟨w3.heap.size + 1, 2, none⟩ = some (.int .u64 (loI D.1)) := u2
      clear u0 u1 u2
      go_wp2
      have HQ := hid (three_set v0 v1 v2 (.int .i64 o) (.int .u64 (hiI D.1)) (.int .u64 (loI D.1)))
      obtain ⟨hf1, hf2⟩ := Made.put (w1 := w) (b := w.heap.size + 1) HT6.out ((But.of HB0.out).trans HB6.out) HO.out (by omega) (cap o D.1)
      exact bodyPost_ret (v := .tuple #[.agg #[.int .i64 o, .int .u64 (hiI D.1), .int .u64 (loI D.1)], .nilIface]) (by simp [results, Tryz.results52, go_sem, HQ.out.1, HQ.out.2.1, HQ.out.2.2]) rfl ⟨⟨default, rfl⟩, hf1, hf2⟩
    · rw [if_pos hD]
      have HDn := hid hD
      unfold Drew at HD
      clear he hm hD
      go_enter Tryz.func52, Tryz.ntmps52
      go_upto_region 1 with fail
      rw [← hw0]
      clear hw0
      go_upto_region 4 with (first
        | (go_at_call 51; refine (checked_ok _ _).mono ?_; rintro e w9 ⟨rfl, hw9⟩; obtain rfl := hw9.symm; clear hw9)
        | (go_at_call 82; refine HMa.out.mono ?_; rintro e w2 ⟨rfl, hb2⟩; have HB2 := hid (below_call HB0.out hb2); have HC2 := hid hb2; have HT2 := hid (HT.out.later hb2); clear hb2))
      go_upto_region 7 with (first
        | (go_at_call 51; refine (checked_no _ _ HDn.out _).mono ?_; unfold errV; rintro e w9 ⟨rfl, hw9⟩; obtain rfl := hw9.symm; clear hw9)
        | (go_at_call 58; refine (HD.out w2 HB2.out).mono ?_; rintro e w3 ⟨rfl, ht3, hb3⟩; have HT3 := hid ht3; have HB3 := hid ((But.of (S := H.Wr) HC2.out).trans (But.ofG hb3)); have hbw := HB3.out.alloc (.cells #[.int .u64 (hiI D.1), .int .u64 (loI D.1)] 30); have HT4 := hid (ht3.later (below1 _ (.cells #[.int .u64 (hiI D.1), .int .u64 (loI D.1)] 30))); have HB4 := hid hbw; obtain ⟨⟨v0, f0⟩, ⟨v1, f1⟩, ⟨v2, f2⟩⟩ := (HM.out _ hbw).2; clear ht3 hb3 hbw))
      go_wp2
      have HQ := hid (three_set v0 v1 v2 (.int .i64 0) (.int .u64 0) (.int .u64 0))
      obtain ⟨hf1, hf2⟩ := Made.put (w1 := w) (b := w.heap.size + 1) HT4.out ((But.of HB0.out).trans HB4.out) HO.out (by omega) (0, 0, 0)
      exact bodyPost_ret (v := .tuple #[.agg #[.int .i64 0, .int .u64 0, .int .u64 0], errV _ _]) (by simp [results, Tryz.results52, go_sem, HQ.out.1, HQ.out.2.1, HQ.out.2.2]; rfl) rfl ⟨⟨_, by rw [show (no { s with t := D.2.2 } D.2.1).code = D.2.1 from rfl, errO_ne HDn.out]; rfl⟩, hf1, hf2⟩
  · rw [if_pos hm]
    have HMn := hid hm
    clear he hm
    go_enter Tryz.func52, Tryz.ntmps52
    go_upto_region 1 with fail
    rw [← hw0]
    clear hw0
    go_upto_region 3 with (first
        | (go_at_call 51; refine (checked_no _ _ HMn.out _).mono ?_; unfold errV; rintro e w9 ⟨rfl, hw9⟩; obtain rfl := hw9.symm; clear hw9)
        | (go_at_call 82; refine HMa.out.mono ?_; rintro e w2 ⟨rfl, hb2⟩; have HB2 := hid (below_call HB0.out hb2); have HC2 := hid hb2; have HT2 := hid (HT.out.later hb2); obtain ⟨⟨v0, f0⟩, ⟨v1, f1⟩, ⟨v2, f2⟩⟩ := (HM.out w2 (But.of hb2)).2; clear hb2))
    go_wp2
    have HQ := hid (three_set v0 v1 v2 (.int .i64 0) (.int .u64 0) (.int .u64 0))
    obtain ⟨hf1, hf2⟩ := Made.put (w1 := w) (b := w.heap.size + 1) HT2.out (But.of HB2.out) HO.out (by omega) (0, 0, 0)
    exact bodyPost_ret (v := .tuple #[.agg #[.int .i64 0, .int .u64 0, .int .u64 0], errV _ _]) (by simp [results, Tryz.results52, go_sem, HQ.out.1, HQ.out.2.1, HQ.out.2.2]; rfl) rfl ⟨⟨_, by rw [show (no s (Q.may H.e H.a s.L o)).code = Q.may H.e H.a s.L o from rfl, errO_ne HMn.out]; rfl⟩, hf1, hf2⟩
end Go.Proofs.YtgihdchgdejkhaaGreatDoor.D
