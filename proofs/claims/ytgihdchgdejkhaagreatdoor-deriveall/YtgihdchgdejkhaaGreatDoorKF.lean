import Derived.Test.YtgihdchgdejkhaaGreatDoorMJ
import Derived.Test.YtgihdchgdejkhaaGreatDoorKE
import Derived.Test.YtgihdchgdejkhaaGreatDoorS1
namespace Go.Proofs.YtgihdchgdejkhaaGreatDoor
open Go.RowKit H
theorem Ow.rt {w : World} {base : Nat} {a : Option Addr} {n cap : Nat} {K : List Tok} (h : Ow w base 55 5 a n cap (toks K)) (hn : K.length = n) : Rt w a n K :=
  ⟨hn, fun h0 => by
    obtain ⟨b, e, hc⟩ := h.at_ h0
    refine ⟨b, 0, e, fun i c hi => ?_⟩
    have hg := fun d (hd : d < 5) => toks_get (L := K) (i := i) (x := c) hi d hd
    rw [Nat.zero_add]
    exact ⟨hc _ _ (hg 0 (by omega)), hc _ _ (hg 1 (by omega)), hc _ _ (hg 2 (by omega)), hc _ _ (hg 3 (by omega)), hc _ _ (hg 4 (by omega))⟩⟩
end Go.Proofs.YtgihdchgdejkhaaGreatDoor
namespace Go.Proofs.YtgihdchgdejkhaaGreatDoor.D
open Go.RowKit
open Go.Proofs.YtgihdchgdejkhaaGreatDoor.H (B64 Cp)
set_option linter.unusedVariables false

/-- What made gives, the document's too. -/
def MadeQ (w : World) (P : Par) (e : Ending) (w' : World) : Prop :=
  ∃ (H : Hd) (K : Kd) (sb rb : Nat), e = .returned (.tuple #[.pointer (some ⟨sb, 0, none⟩), .pointer (some ⟨rb, 0, none⟩)]) ∧ H.toPar = P ∧ Tri w' H (s0 P.mo) ∧ Dz w' P K (s0 P.mo) 0 (fun k => rb < k) ∧ Tp w' sb H.g H.A.g H.qg ∧ Tp w' rb K.g K.r K.q ∧
    (∀ k, H.Wr k → w.heap.size ≤ k) ∧ w.heap.size ≤ K.m1 ∧ (∀ k, H.All k → k < K.m1) ∧ (K.q < sb ∧ sb < rb) ∧ Below w.heap.size w w'
set_option maxRecDepth 100000 in
set_option maxHeartbeats 2000000 in
/-- made, with the document's. -/
theorem made_all {w : World} (hl : Laid w) (wd : Int) (en ea kn : Nat) {a : Option Addr} {n cap : Nat} {f : Nat → Nat} (h : Ws w a n cap f) (hn : n ≤ 4096) (h1 : 1 ≤ wd) (h2 : wd ≤ 128) (h3 : 1 ≤ en) (h4 : en ≤ 256) (h5 : 1 ≤ ea) (h6 : ea ≤ 256) (h7 : kn ≤ 64) :
    Calls Tryz.prog 9 #[woV wd en ea kn a n cap] w (MadeQ w ⟨en, ea, en, n, cutF f wd⟩) := by
  obtain ⟨w0, hw0⟩ : ∃ w0, w0 = w.alloc (Obj.cells #[.int .i64 wd, .int .i64 (en : Int), .int .i64 (ea : Int), .int .i64 (kn : Int), .slice a n cap] 24) := ⟨_, rfl⟩
  have hB0 : Below w.heap.size w w0 := by rw [hw0]; exact below1 _ _
  have hwo : Wo w0 w.heap.size wd en ea kn a n cap := by rw [hw0]; exact ⟨by simp [go_sem], by simp [go_sem], by simp [go_sem], by simp [go_sem], by simp [go_sem]⟩
  have HWo : Hid (∀ U, Below w0.heap.size w0 U → Wo U w.heap.size wd en ea kn a n cap) := fun U hU => hwo.but (S := fun _ => False) (But.of hU) (fun h => h)
  obtain ⟨x0, x1, x2, x3, x4⟩ := hwo
  have hpos : 0 < w.heap.size := World.block_lt_of_cell? _ _ hl
  have K1 := hid (new_ok a n cap f wd w0 (h.later hB0) h1 h2 hn)
  have K2 := hid (fun U => cnew_ok U en kn h3 h4 h7)
  have K3 := hid (fun U => Q.new_ok (ea : Int) (en : Int) U ⟨⟨by omega, by omega⟩, by omega, by omega⟩)
  have K4 := hid (fun (U : World) (hU : Below w0.heap.size w0 U) => rnew_ok a n cap f wd U (h.later (below_call hB0 hU)) h1 h2 hn)
  have K5 := hid (fun U => Go.Proofs.YtgihdchgdejkhaaGreatDoor.rnew_ok U en kn h3 h4 h7)
  have K6 := hid (fun U => Q.rnew_ok (ea : Int) (en : Int) U ⟨⟨by omega, by omega⟩, by omega, by omega⟩)
  have HL0 := hid (hl.later hB0)
  have HB0 := hid hB0
  have HS0 : Hid (w.heap.size ≤ w0.heap.size) := hB0.size
  clear h hB0 hl h1 h2 h3 h4 h5 h6 h7
  unfold woV
  go_enter Tryz.func9, Tryz.ntmps9
  go_upto_region 1 with fail
  rw [← hw0]
  clear hw0
  go_upto_region 2 with (first
    | (go_at_call 20; refine K1.out.mono ?_; rintro e w1 ⟨g, gb, rfl, hd1, hg1, hg2, hg3, hb1⟩; have HD1 := hid hd1; have HG1 := hid (And.intro hg1 (And.intro hg2 hg3)); have HB1 := hid hb1; have HC1 := hid hb1; clear hd1 hg1 hg2 hg3 hb1; obtain ⟨x0, x1, x2, x3, x4⟩ := HWo.out w1 HC1.out))
  go_upto_region 3 with (first
    | (go_at_call 21; refine (K2.out w1).mono ?_; rintro e w2 ⟨A, rfl, hc2, ha2, hb2⟩; have HA2 := hid hc2; have HG2 := hid ha2; have HB2 := hid hb2; have HC2 := hid (below_call HC1.out hb2); clear hc2 ha2 hb2; obtain ⟨x0, x1, x2, x3, x4⟩ := HWo.out w2 HC2.out))
  go_upto_region 6 with (first
    | (go_at_call 22; refine (K3.out w2).mono ?_; rintro e w3 ⟨qg, qb, rfl, hq3, hq1, hq2, hb3⟩; have HQ3 := hid hq3; have HG3 := hid (And.intro hq1 hq2); have HB3 := hid hb3; have HC3 := hid (below_call HC2.out hb3); clear hq3 hq1 hq2 hb3; obtain ⟨x0, x1, x2, x3, x4⟩ := HWo.out w3 HC3.out))
  go_upto_region 7 with (first
    | (go_at_call 23; refine (K4.out w3 HC3.out).mono ?_; rintro e w4 ⟨dg, dgb, rfl, hd4, hd1, hd2, hb4⟩; have HD4 := hid hd4; have HG4 := hid (And.intro hd1 hd2); have HB4 := hid hb4; have HC4 := hid (below_call HC3.out hb4); clear hd4 hd1 hd2 hb4; obtain ⟨x0, x1, x2, x3, x4⟩ := HWo.out w4 HC4.out))
  go_upto_region 8 with (first
    | (go_at_call 24; refine (K5.out w4).mono ?_; rintro e w5 ⟨r, b, rfl, hr5, hr1, hr2, hb5⟩; have HR5 := hid hr5; have HG5 := hid (And.intro hr1 hr2); have HB5 := hid hb5; have HC5 := hid (below_call HC4.out hb5); clear hr5 hr1 hr2 hb5; obtain ⟨x0, x1, x2, x3, x4⟩ := HWo.out w5 HC5.out))
  go_wp2_with (first
    | (go_at_call 25; refine (K6.out w5).mono ?_; rintro e w6 ⟨qr, rfl, hq6, hb6⟩; have HQ6 := hid hq6; have HB6 := hid hb6; have HC6 := hid (below_call HC5.out hb6); clear hq6 hb6))
  obtain ⟨W, hW⟩ : ∃ W, W = (w6.alloc (Obj.cells #[.pointer (some ⟨g, 0, none⟩), .pointer (some ⟨A.g, 0, none⟩), .pointer (some ⟨qg, 0, none⟩)] 44)).alloc (Obj.cells #[.pointer (some ⟨dg, 0, none⟩), .pointer (some ⟨r, 0, none⟩), .pointer (some ⟨qr, 0, none⟩)] 76) := ⟨_, rfl⟩
  have hBW : Below w6.heap.size w6 W := by rw [hW]; exact below2 _ _ _
  have t1 : Tp W w6.heap.size g A.g qg := by rw [hW]; exact ⟨by simp [go_sem], by simp [go_sem], by simp [go_sem]⟩
  have t2 : Tp W (w6.heap.size + 1) dg r qr := by rw [hW]; exact ⟨by simp [go_sem], by simp [go_sem], by simp [go_sem]⟩
  have e1 := HB1.out.size
  have e2 := HB2.out.size
  have e3 := HB3.out.size
  have e4 := HB4.out.size
  have e5 := HB5.out.size
  have e6 := HB6.out.size
  have e0 := HS0.out
  have lg := HD1.out.lt
  have lA := HA2.out.lt
  have lqb := HQ3.out.blt
  have lqg := HQ3.out.glt
  have ldg := HD4.out.lt
  have lr := HR5.out.ltr
  have lb := HR5.out.ltb
  have lq := HQ6.out.rlt
  obtain ⟨b1, b2, b3⟩ := HG1.out
  obtain ⟨c1, c2⟩ := HG3.out
  obtain ⟨d1, d2⟩ := HG4.out
  obtain ⟨f1, f2⟩ := HG5.out
  have hlo := HQ6.out.lo
  have cA := HG2.out
  have b26 : Below w2.heap.size w2 W := below_call (below_call (below_call (below_call HB3.out HB4.out) HB5.out) HB6.out) hBW
  have b36 : Below w3.heap.size w3 W := below_call (below_call (below_call HB4.out HB5.out) HB6.out) hBW
  have b46 : Below w4.heap.size w4 W := below_call (below_call HB5.out HB6.out) hBW
  have b56 : Below w5.heap.size w5 W := below_call HB6.out hBW
  have b16 : Below w1.heap.size w1 W := below_call HB2.out b26
  refine bodyPost_ret (v := .tuple #[.pointer (some ⟨w6.heap.size, 0, none⟩), .pointer (some ⟨w6.heap.size + 1, 0, none⟩)]) (by simp [results, Tryz.results9, go_sem]) rfl ?_
  rw [← hW]
  refine ⟨⟨⟨en, ea, en, n, cutF f wd⟩, g, gb, A, kn, qg, qb⟩, ⟨dg, dgb, r, b, qr, f, wd, w3.heap.size, w4.heap.size, w5.heap.size⟩, w6.heap.size, w6.heap.size + 1, rfl, rfl, ⟨HD1.out.later b16, HA2.out.later b26, HQ3.out.later b36, HL0.out.later (below_call HC6.out hBW), ?_⟩, ⟨⟨HD4.out.later b46, rfl, ⟨_, _, HR5.out.later b56, ?_, Nat.le_refl _⟩, ⟨_, _, HQ6.out.later hBW⟩, ⟨d1, ldg, fun h0 => ⟨d2 h0, HD4.out.lt2 h0⟩⟩, ⟨f1, f2, lr, lb⟩⟩, ⟨_, _, HQ6.out.later hBW, fun k hk => by obtain ⟨x, hx, _⟩ := hk; cases hx⟩, Nat.lt_trans lq (Nat.lt_of_le_of_lt (Nat.le_succ _) t2.lt), fun k hk => Nat.lt_of_lt_of_le t2.lt hk⟩, t1, t2, ?_, by show w.heap.size ≤ w3.heap.size; omega, ?_, ⟨by show qr < w6.heap.size; omega, by omega⟩, below_call HB0.out (below_call HC6.out hBW)⟩
  · refine ⟨fun k hk => ?_, fun k hk => ?_, fun h0 => ⟨?_, fun e => ?_⟩, ?_, ⟨?_, fun e => ?_⟩, fun k hk => ?_⟩
    · have := cA k hk; show k ≠ g; omega
    · have := lA k hk; show k ≠ qb; omega
    · show gb ≠ qb; omega
    · have := cA _ (wr_all e); have : gb < w1.heap.size := b3; show False; change w1.heap.size ≤ gb at *; omega
    · show g ≠ qb; omega
    · show qg ≠ g; omega
    · have := lA _ (wr_all e); change qg < w2.heap.size at this; show False; omega
    · rcases hk with e | e | hk
      · change k = g at e; omega
      · change k = qb at e; omega
      · have := cA _ (wr_all hk); omega
  · exact ⟨List.Pairwise.nil, fun x hx => by cases hx⟩
  · intro k hk
    rcases hk with e | e | hk
    · change k = g at e; omega
    · change k = qb at e; omega
    · have := cA _ (wr_all hk); omega
  · intro k hk
    show k < w3.heap.size
    rcases hk with e | e | ⟨h0, e⟩ | e | e | hk
    · omega
    · change k = g at e; omega
    · change k = gb at e; omega
    · change k = qg at e; omega
    · change k = qb at e; omega
    · have := lA k hk; omega

/-! ### Both -/
/-- Both at rest. -/
structure Duo (w : World) (H : Hd) (K : Kd) (s d : Sta) (T sb rb : Nat) : Prop where
  tri : Tri w H s
  doc : Dz w H.toPar K d T (fun k => rb < k)
  sep : ∀ k, H.All k → k < K.m1
  at_ : K.q < sb ∧ sb < rb
  t1 : Tp w sb H.g H.A.g H.qg
  t2 : Tp w rb K.g K.r K.q
/-- Both within a call that began at a world of M blocks. -/
structure Mid (w : World) (H : Hd) (K : Kd) (s d : Sta) (T sb rb M : Nat) : Prop where
  tri : Tri w H s
  doc : Dm w H.toPar K d T M (fun k => rb < k)
  sep : ∀ k, H.All k → k < K.m1
  at_ : K.q < sb ∧ sb < rb
  t1 : Tp w sb H.g H.A.g H.qg
  t2 : Tp w rb K.g K.r K.q
  lt : rb < M ∧ M ≤ w.heap.size
  mq : K.m1 ≤ K.q
theorem Duo.m1q {w : World} {H : Hd} {K : Kd} {s d : Sta} {T sb rb : Nat} (h : Duo w H K s d T sb rb) : K.m1 ≤ K.q := by
  obtain ⟨pa, cap, hq, _⟩ := h.doc.q
  have := h.doc.doc.i1
  have := h.doc.doc.i2
  have := hq.lo
  omega
theorem Duo.mid {w : World} {H : Hd} {K : Kd} {s d : Sta} {T sb rb : Nat} (h : Duo w H K s d T sb rb) : Mid w H K s d T sb rb w.heap.size := ⟨h.tri, Dm.of h.doc, h.sep, h.at_, h.t1, h.t2, ⟨h.t2.lt, Nat.le_refl _⟩, h.m1q⟩
theorem Mid.prog {w w' : World} {H : Hd} {K : Kd} {s s' d : Sta} {T sb rb M : Nat} (h : Mid w H K s d T sb rb M) (ht : Tri w' H s') (hb : But H.Wr w w') : Mid w' H K s' d T sb rb M := by
  have hm := h.mq
  have ha := h.at_
  have hn : ∀ k, H.Wr k → k < K.m1 := fun k hk => h.sep k (Hd.wr_all hk)
  exact ⟨ht, h.doc.but hb (fun k hk => .inl (hn k hk)), h.sep, h.at_, h.t1.but hb (fun e => by have := hn _ e; omega), h.t2.but hb (fun e => by have := hn _ e; omega), ⟨h.lt.1, Nat.le_trans h.lt.2 hb.size⟩, hm⟩
theorem Mid.later {w w' : World} {H : Hd} {K : Kd} {s d : Sta} {T sb rb M : Nat} (h : Mid w H K s d T sb rb M) (hb : Below w.heap.size w w') : Mid w' H K s d T sb rb M := h.prog (h.tri.later hb) (But.of hb)
theorem Mid.all {w : World} {H : Hd} {K : Kd} {s d : Sta} {T sb rb M : Nat} (h : Mid w H K s d T sb rb M) : ∀ k, H.All k → k < M := fun k hk => by
  have := h.sep k hk
  have := h.mq
  have := h.at_
  have := h.lt
  omega
theorem Mid.own {w : World} {H : Hd} {K : Kd} {s d : Sta} {T sb rb M b : Nat} (h : Mid w H K s d T sb rb M) (hb : M ≤ b) (o : Nat) (u : Value) : Mid (w.setCell ⟨b, o, none⟩ u) H K s d T sb rb M := by
  have ha := h.at_
  have hl := h.lt
  have hB : But (· = b) w (w.setCell ⟨b, o, none⟩ u) := (But.refl (· = b) _).own o u
  exact ⟨h.tri.own (fun k hk => Nat.lt_of_lt_of_le (h.all k hk) hb) o u, h.doc.own hb o u, h.sep, h.at_, h.t1.but hB (fun e => by omega), h.t2.but hB (fun e => by omega), ⟨h.lt.1, Nat.le_trans h.lt.2 hB.size⟩, h.mq⟩
/-- Behind the document's call. -/
theorem Mid.docd {w w' : World} {H : Hd} {K : Kd} {s d d' : Sta} {T T' sb rb M X : Nat} (h : Mid w H K s d T sb rb M) (hd : Dz w' H.toPar K d' T' (gapN M X rb)) (hb : But (Kw K M (gapN M X rb)) w w') : Duo w' H K s d' T' sb rb := by
  have ha := h.at_
  have hl := h.lt
  have hn : ∀ k, K.q < k → k ≤ rb → ¬ Kw K M (gapN M X rb) k := fun k h1 h2 e => by
    rcases e.2.2 with g | g
    · omega
    · exact absurd g.1 (by omega)
  have ht2 := h.t2.but hb (hn _ (by omega) (Nat.le_refl _))
  exact ⟨h.tri.but hb (fun k hk e => by have := h.sep k hk; have := e.1; omega), hd.weak (fun k hk => hk.1) ht2.lt, h.sep, h.at_, h.t1.but hb (hn _ ha.1 (by omega)), ht2⟩
theorem Duo.later {w w' : World} {H : Hd} {K : Kd} {s d : Sta} {T sb rb : Nat} (h : Duo w H K s d T sb rb) (hb : Below w.heap.size w w') : Duo w' H K s d T sb rb := by
  have hm := h.mid.later hb
  exact ⟨hm.tri, ((Dm.of h.doc).later hb).dz hb.size, h.sep, h.at_, hm.t1, hm.t2⟩
/-- The token that a call names. -/
def namedC (mo : Nat) (s : Sta) (p : Sp) : Cp := if (ofL mo s.X s.l p.ob).length = 0 ∨ p.kd = 3 then p.c else (((ofL mo s.X s.l p.ob)[intoN p.at_ (ofL mo s.X s.l p.ob).length]?).getD ((0, 0, 0), 0, 0)).1
theorem len_small {m : Nat} {X : List Tk} {l : Fo} (h : Inv m X l) (o : Int) : (ofL m X l o).length ≤ m := by
  have h1 := nd_sub (A := nums l) (B := firsts m) h.ok.nodup (fun x hx => mem_firsts.2 (h.ok.range x hx))
  rw [firsts_len] at h1
  refine Nat.le_trans ?_ h1
  by_cases ho : 0 < inN X l o
  · obtain ⟨n, hn, e⟩ := hasO_iff.1 (hasO_inN.2 ho)
    obtain ⟨Gs, hT⟩ := h.told hn
    rw [e] at hT
    rw [hT.len, hT.inn]
    exact List.length_filter_le _ _
  · have : rootOf X l o = none := rootOf_none (fun r hr e => ho (hasO_inN.1 (hasO_iff.2 ⟨r, mem_nums.2 ⟨_, hr⟩, e⟩)))
    unfold ofL
    rw [this]
    exact Nat.zero_le _
set_option maxRecDepth 100000 in
set_option maxHeartbeats 4000000 in
theorem named_any {w : World} {P : Par} {K : Kd} {s : Sta} {T : Nat} (h : Doc w P K s T) (hf : Fit P s) (hmo : P.mo ≤ 1024) (p : Sp) :
    Calls Tryz.prog 33 #[.pointer (some ⟨K.r, 0, none⟩), spV p] w fun e w' => e = .returned (cpV (namedC P.mo s p)) ∧ Below w.heap.size w w' := by
  obtain ⟨w0, hw0⟩ : ∃ w0, w0 = (w.alloc (Obj.cells #[.int .i64 p.kd, .int .i64 p.ob, .int .i64 p.at_, .int .i64 p.r, .int .i64 p.c.1, .int .u64 (p.c.2.1 : Int), .int .u64 (p.c.2.2 : Int)] 51)).alloc (Obj.cells #[.int .i64 0, .int .u64 0, .int .u64 0] 36) := ⟨_, rfl⟩
  have hB0 : Below w.heap.size w w0 := by rw [hw0]; exact below2 _ _ _
  have hsb : Sb w0 w.heap.size 0 p := by rw [hw0]; exact ⟨by simp [go_sem], by simp [go_sem], by simp [go_sem], by simp [go_sem], by simp [go_sem], by simp [go_sem], by simp [go_sem]⟩
  have hz : Zc w0 (w.heap.size + 1) := by rw [hw0]; exact ⟨⟨by simp [go_sem], by simp [go_sem]⟩, ⟨by simp [go_sem], by simp [go_sem]⟩, ⟨by simp [go_sem], by simp [go_sem]⟩⟩
  have HM : Hid (∀ U, Below w0.heap.size w0 U → Sb U w.heap.size 0 p ∧ Zc U (w.heap.size + 1)) := fun U hU => ⟨hsb.later hU, hz.but (S := fun _ => False) (But.of hU) (fun h => h)⟩
  obtain ⟨wh, ev, hr, ht, he⟩ := (h.later hB0).c
  have HO := hid (rof_any hr hf.inv ht p.ob)
  have hle := len_small hf.inv p.ob
  have x1 : w0.cell? ⟨w.heap.size, 1, none⟩ = some (.int .i64 p.ob) := hsb.c1
  have HB0 := hid hB0
  unfold namedC spV
  obtain ⟨O, hO⟩ : ∃ O, O = ofL P.mo s.X s.l p.ob := ⟨_, rfl⟩
  rw [← hO] at HO hle
  simp only [← hO]
  clear h hf hB0 hsb hz hr ht he hO
  have hfin : ∀ (W : World) (c : Cp), Below w.heap.size w W → Below w.heap.size w (((W.setCell ⟨w.heap.size + 1, 0, none⟩ (.int .i64 c.1)).setCell ⟨w.heap.size + 1, 1, none⟩ (.int .u64 (c.2.1 : Int))).setCell ⟨w.heap.size + 1, 2, none⟩ (.int .u64 (c.2.2 : Int))) := fun W c hW => But.below (S := fun k => k = w.heap.size + 1) hW ((((But.refl (fun k => k = w.heap.size + 1) W).own _ _).own _ _).own _ _) (fun k hk => by omega)
  by_cases hk : O.length = 0 ∨ p.kd = 3
  · rw [if_pos hk]
    by_cases h0 : O.length = 0
    · have hb0 : ((O.length : Int) == 0) = true := by rw [beq_iff_eq]; omega
      rw [h0] at HO
      go_enter Tryz.func33, Tryz.ntmps33
      go_upto_region 1 with fail
      rw [← hw0]
      clear hw0
      go_upto_region 2 with (first | (go_at_call 42; refine HO.out.mono ?_; rintro e w2 ⟨a2, c2, rfl, _, hb2⟩; have HB2 := hid hb2; obtain ⟨⟨y0, y1, y2, y3, y4, y5, y6⟩, ⟨z0, f0⟩, ⟨z1, f1⟩, ⟨z2, f2⟩⟩ := HM.out w2 hb2; clear hb2))
      simp only [Nat.zero_add] at y0 y1 y2 y3 y4 y5 y6
      go_wp2
      have HQ := hid (three_set z0 z1 z2 (.int .i64 p.c.1) (.int .u64 (p.c.2.1 : Int)) (.int .u64 (p.c.2.2 : Int)))
      exact bodyPost_ret (v := .agg #[.int .i64 p.c.1, .int .u64 (p.c.2.1 : Int), .int .u64 (p.c.2.2 : Int)]) (by simp [results, Tryz.results33, go_sem, HQ.out.1, HQ.out.2.1, HQ.out.2.2]) rfl ⟨rfl, hfin _ _ (below_call HB0.out HB2.out)⟩
    · have h3 : p.kd = 3 := hk.resolve_left h0
      have hb0 : ((O.length : Int) == 0) = false := by rw [beq_eq_false_iff_ne]; omega
      have hk3 : (p.kd == 3) = true := by rw [beq_iff_eq]; exact h3
      clear h3 hk
      go_enter Tryz.func33, Tryz.ntmps33
      go_upto_region 1 with fail
      rw [← hw0]
      clear hw0
      go_upto_region 2 with (first | (go_at_call 42; refine HO.out.mono ?_; rintro e w2 ⟨a2, c2, rfl, _, hb2⟩; have HB2 := hid hb2; obtain ⟨⟨y0, y1, y2, y3, y4, y5, y6⟩, ⟨z0, f0⟩, ⟨z1, f1⟩, ⟨z2, f2⟩⟩ := HM.out w2 hb2; clear hb2))
      simp only [Nat.zero_add] at y0 y1 y2 y3 y4 y5 y6
      go_wp2
      have HQ := hid (three_set z0 z1 z2 (.int .i64 p.c.1) (.int .u64 (p.c.2.1 : Int)) (.int .u64 (p.c.2.2 : Int)))
      exact bodyPost_ret (v := .agg #[.int .i64 p.c.1, .int .u64 (p.c.2.1 : Int), .int .u64 (p.c.2.2 : Int)]) (by simp [results, Tryz.results33, go_sem, HQ.out.1, HQ.out.2.1, HQ.out.2.2]) rfl ⟨rfl, hfin _ _ (below_call HB0.out HB2.out)⟩
  · rw [if_neg hk]
    have h0 : 0 < O.length := by omega
    have hb0 : ((O.length : Int) == 0) = false := by rw [beq_eq_false_iff_ne]; omega
    have hk3 : (p.kd == 3) = false := by rw [beq_eq_false_iff_ne]; omega
    have hj := intoN_lt p.at_ h0
    obtain ⟨tk_, htk⟩ : ∃ t, O[intoN p.at_ O.length]? = some t := ⟨_, List.getElem?_eq_getElem hj⟩
    rw [htk]
    simp only [Option.getD_some]
    have HMo := hid (fun U => into_any p.at_ O.length U h0 (by omega))
    obtain ⟨j, hj'⟩ : ∃ j, j = intoN p.at_ O.length := ⟨_, rfl⟩
    rw [← hj'] at HMo htk hj
    clear hj' hk
    go_enter Tryz.func33, Tryz.ntmps33
    go_upto_region 1 with fail
    rw [← hw0]
    clear hw0
    go_upto_region 2 with (first | (go_at_call 42; refine HO.out.mono ?_; rintro e w2 ⟨a2, c2, rfl, hO2, hb2⟩; have HB2 := hid hb2; have HO2 := hid hO2; obtain ⟨⟨y0, y1, y2, y3, y4, y5, y6⟩, ⟨z0, f0⟩, ⟨z1, f1⟩, ⟨z2, f2⟩⟩ := HM.out w2 hb2; clear hb2 hO2))
    simp only [Nat.zero_add] at y0 y1 y2 y3 y4 y5 y6
    obtain ⟨b, o, rfl, hcells⟩ := (HO2.out.rt rfl).at_ h0
    obtain ⟨k0, k1, k2, k3, k4⟩ := hcells j tk_ htk
    clear hcells htk
    go_wp2_with (first | (go_at_call 8; refine (HMo.out _).mono ?_; rintro e w9 ⟨rfl, hw9⟩; obtain rfl := hw9.symm; clear hw9))
    have HQ := hid (three_set z0 z1 z2 (.int .i64 tk_.1.1) (.int .u64 (tk_.1.2.1 : Int)) (.int .u64 (tk_.1.2.2 : Int)))
    exact bodyPost_ret (v := .agg #[.int .i64 tk_.1.1, .int .u64 (tk_.1.2.1 : Int), .int .u64 (tk_.1.2.2 : Int)]) (by simp [results, Tryz.results33, go_sem, HQ.out.1, HQ.out.2.1, HQ.out.2.2]) rfl ⟨rfl, hfin _ _ (below_call HB0.out HB2.out)⟩
end Go.Proofs.YtgihdchgdejkhaaGreatDoor.D
namespace Go.Proofs.YtgihdchgdejkhaaGreatDoor.D
open Go.RowKit
open Go.Proofs.YtgihdchgdejkhaaGreatDoor.H (B64 Cp)
set_option linter.unusedVariables false

set_option maxRecDepth 100000 in
set_option maxHeartbeats 8000000 in
/-- told. -/
theorem told_any {w : World} {H : Hd} {K : Kd} {s : Sta} {T sb rb : Nat} (h : Duo w H K s s T sb rb) (hf : Fit H.toPar s) (hmo : H.mo ≤ 1024) (o : Int) (ho : (Lit.int .i64 o).wf = true) :
    Calls Tryz.prog 19 #[.pointer (some ⟨sb, 0, none⟩), .pointer (some ⟨rb, 0, none⟩), .int .i64 o] w fun e w' => e = .returned (.bool true) ∧ Below w.heap.size w w' := by
  obtain ⟨pa, cap, hq, _⟩ := h.doc.q
  obtain ⟨wh, ev, hr, ht, he⟩ := h.doc.doc.c
  have HC : Hid (∀ U, Below w.heap.size w U → Tp U sb H.g H.A.g H.qg ∧ Tp U rb K.g K.r K.q ∧ U.cell? ⟨K.q, 2, none⟩ = some (.slice pa s.L.length cap) ∧ U.cell? ⟨K.g, 2, none⟩ = some (.int .i64 (s.t : Int))) := fun U hU => ⟨h.t1.later hU, h.t2.later hU, cell_later hU hq.c2.1, cell_later hU h.doc.doc.d.tk.1⟩
  have k1 := hid (fun (U : World) (hU : Below w.heap.size w U) => cof_any (h.tri.later hU).cat o)
  have k2 := hid (fun (U : World) (hU : Below w.heap.size w U) => rof_any (hr.later hU) hf.inv ht o)
  have k3 := hid (fun (U : World) (hU : Below w.heap.size w U) => Q.of_any (h.tri.later hU).qu o ho)
  have k4 := hid (fun (U : World) (hU : Below w.heap.size w U) => Q.rof_any (hq.later hU) o)
  have k5 := hid (fun (U : World) (hU : Below w.heap.size w U) => Q.all_any (h.tri.later hU).qu)
  have k6 := hid (fun (U : World) (hU : Below w.heap.size w U) => taken_any _ _ _ _ _ _ (h.tri.later hU).d)
  have k7 := hid (fun (U : World) (hU : Below w.heap.size w U) => ccount_any (h.tri.later hU).cat)
  have k8 := hid (fun (U : World) (hU : Below w.heap.size w U) => rcount_any (hr.later hU) hf.inv.ok)
  have hle := len_small hf.inv o
  obtain ⟨O, hO⟩ : ∃ O, O = ofL H.mo s.X s.l o := ⟨_, rfl⟩
  rw [show ofL H.toPar.mo s.X s.l o = O from hO.symm] at hle k2
  rw [← hO] at k1
  obtain ⟨⟨x0, x1, x2⟩, ⟨y0, y1, y2⟩, z0, z1⟩ := HC.out w (Below.refl _ _)
  clear h hf hq hr ht he hO
  go_enter Tryz.func19, Tryz.ntmps19
  have HCw := hid (fun (U : World) (hU : Below w.heap.size w U) => And.intro (And.intro (HC.out U hU).1.c0 (And.intro (HC.out U hU).1.c1 (And.intro (HC.out U hU).1.c2 (And.intro (HC.out U hU).2.1.c0 (And.intro (HC.out U hU).2.1.c1 (And.intro (HC.out U hU).2.1.c2 (HC.out U hU).2.2)))))) hU)
  clear x0 x1 x2 y0 y1 y2 z0 z1
  generalize List.count o s.L = n1 at *
  generalize s.L.length = n2 at *
  generalize s.t = n3 at *
  generalize List.length s.l = n4 at *
  have e1 : ((n1 : Int) == (n1 : Int)) = true := by simp
  have e2 : ((n2 : Int) == (n2 : Int)) = true := by simp
  have e3 : ((n3 : Int) == (n3 : Int)) = true := by simp
  have e4 : ((n4 : Int) == (n4 : Int)) = true := by simp
  go_upto_region 1 with fail
  simp only [List.append]
  go_region_held3 (fun U => (U.cell? ⟨sb, 0, none⟩ = some (.pointer (some ⟨H.g, 0, none⟩)) ∧ U.cell? ⟨sb, 1, none⟩ = some (.pointer (some ⟨H.A.g, 0, none⟩)) ∧ U.cell? ⟨sb, 2, none⟩ = some (.pointer (some ⟨H.qg, 0, none⟩)) ∧ U.cell? ⟨rb, 0, none⟩ = some (.pointer (some ⟨K.g, 0, none⟩)) ∧ U.cell? ⟨rb, 1, none⟩ = some (.pointer (some ⟨K.r, 0, none⟩)) ∧ U.cell? ⟨rb, 2, none⟩ = some (.pointer (some ⟨K.q, 0, none⟩)) ∧ U.cell? ⟨K.q, 2, none⟩ = some (.slice pa n2 cap) ∧ U.cell? ⟨K.g, 2, none⟩ = some (.int .i64 (n3 : Int))) ∧ Below w.heap.size w U) (first | exact HCw.out _ HB8.out | exact HCw.out _ HB7.out | exact HCw.out _ HB6.out | exact HCw.out _ HB5.out | exact HCw.out _ HB4.out | exact HCw.out _ HB3b.out | exact HCw.out _ HB3.out | exact HCw.out _ HB2.out | exact HCw.out _ HB1.out | exact HCw.out _ (Below.refl _ _).drew) (first
    | (go_at_call 45; refine (k8.out _ HB7.out).mono ?_; rintro e v8 ⟨rfl, hw9⟩; have HB8 : Hid (Below w.heap.size w v8) := (by unfold Hid; rw [hw9]; exact HB7.out); clear hw9)
    | (go_at_call 44; refine (k7.out _ HB6.out).mono ?_; rintro e v7 ⟨rfl, hw9⟩; have HB7 : Hid (Below w.heap.size w v7) := (by unfold Hid; rw [hw9]; exact HB6.out); clear hw9)
    | (go_at_call 12; refine (k6.out _ HB5.out).mono ?_; rintro e v6 ⟨rfl, hw9⟩; have HB6 : Hid (Below w.heap.size w v6) := (by unfold Hid; rw [hw9]; exact HB5.out); clear hw9)
    | (go_at_call 15; refine (k5.out _ HB4.out).mono ?_; rintro e w5 ⟨rfl, hb5⟩; have HB5 := hid (below_call HB4.out hb5); clear hb5)
    | (go_at_call 43; refine (k4.out _ HB3b.out).mono ?_; rintro e v4 ⟨rfl, hw9⟩; have HB4 : Hid (Below w.heap.size w v4) := (by unfold Hid; rw [hw9]; exact HB3b.out); clear hw9)
    | (go_at_call 13; refine (k3.out _ HB3.out).mono ?_; rintro e v3 ⟨rfl, hw9⟩; have HB3b : Hid (Below w.heap.size w v3) := (by unfold Hid; rw [hw9]; exact HB3.out); clear hw9)
    | (go_at_call 16; refine (sameT_any _ _ (HR1.out.rt rfl) (HR2.out.rt rfl) (by omega) (by omega)).mono ?_; rintro e w3 ⟨rfl, q3, hw3⟩; have HB3 : Hid (Below w.heap.size w w3) := (by unfold Hid; rw [hw3]; exact below_drewN HB2.out q3); rw [show decide (O = O) = true by simp]; clear hw3)
    | (go_at_call 42; refine (k2.out _ HB1.out).mono ?_; rintro e w2 ⟨a2, c2, rfl, hO2, hb2⟩; have HB2 := hid (below_call HB1.out hb2); have HR2 := hid hO2; have HR1 := hid (HO1.out.later hb2); clear hO2 hb2)
    | (go_at_call 14; refine (k1.out _ (Below.refl _ _).drew).mono ?_; rintro e w1 ⟨a1, c1, rfl, hO1, hb1⟩; have HB1 := hid (below_call (Below.refl w.heap.size w).drew hb1); have HO1 := hid hO1; clear hO1 hb1))
  go_wp2
  go_ret
  exact ⟨rfl, HB8.out⟩
end Go.Proofs.YtgihdchgdejkhaaGreatDoor.D
