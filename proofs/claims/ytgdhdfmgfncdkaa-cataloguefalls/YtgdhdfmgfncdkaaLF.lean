import Derived.Test.YtgdhdfmgfncdkaaVH
namespace Go.Proofs.Ytgdhdfmgfncdkaa
open Go.RowKit Go.Shelf H
set_option linter.unusedVariables false

/-- The law's three arrays: what At told, what is there, what stands at or below N. -/
structure Arr (W : World) (bw bl bb mo : Nat) (X : List Tk) (l : Fo) (N : Int) (i : Nat) : Prop where
  aw : Tw W bw mo (fillL tok0 (fun j => tokT X l (j : Int)) mo i)
  al : Bw W bl mo (fillL false (fun j => decide ((j : Int) ∈ nums l)) mo i)
  ab : Bw W bb mo (fillL false (fun j => decide ((j : Int) ∈ G true l N)) mo i)
theorem Arr.but {S : Nat → Prop} {W W' : World} {bw bl bb mo : Nat} {X : List Tk} {l : Fo} {N : Int} {i : Nat} (h : Arr W bw bl bb mo X l N i) (hb : But S W W') (h1 : ¬ S bw) (h2 : ¬ S bl) (h3 : ¬ S bb) : Arr W' bw bl bb mo X l N i := ⟨h.aw.but hb h1, h.al.but hb h2, h.ab.but hb h3⟩
theorem Arr.later {W W' : World} {bw bl bb mo : Nat} {X : List Tk} {l : Fo} {N : Int} {i : Nat} (h : Arr W bw bl bb mo X l N i) (hb : Below W.heap.size W W') : Arr W' bw bl bb mo X l N i := ⟨h.aw.later hb, h.al.later hb, h.ab.later hb⟩
def S3 (bw bl bb k : Nat) : Prop := k = bw ∨ k = bl ∨ k = bb
/-- A round's three stores. -/
theorem Arr.step {w7 w8 w9 w9' : World} {bw bl bb mo : Nat} {X : List Tk} {l : Fo} {N : Int} {i : Nat} (h : Arr w7 bw bl bb mo X l N i) (hi : i < mo) (n1 : bw ≠ bl) (n2 : bw ≠ bb) (n3 : bl ≠ bb) (e8 : w8 = set5o w7 bw (i * 5) (tokT X l (i : Int))) (e9 : w9 = w8.setCell ⟨bl, i, none⟩ (.bool (decide ((i : Int) ∈ nums l)))) (hb : Below w9.heap.size w9 w9') :
    Arr (w9'.setCell ⟨bb, i, none⟩ (.bool (decide ((i : Int) ∈ G true l N)))) bw bl bb mo X l N (i + 1) ∧ But (S3 bw bl bb) w7 (w9'.setCell ⟨bb, i, none⟩ (.bool (decide ((i : Int) ∈ G true l N)))) := by
  have b8 : But (· = bw) w7 w8 := by rw [e8]; exact set5o_but (S := (· = bw)) (But.refl _ _) rfl _ _
  have b9 : But (· = bl) w8 w9 := by rw [e9]; exact (But.refl (· = bl) w8).setCell (p := ⟨bl, i, none⟩) rfl _
  have b10 : But (· = bb) w9' (w9'.setCell ⟨bb, i, none⟩ (.bool (decide ((i : Int) ∈ G true l N)))) := (But.refl (· = bb) w9').setCell (p := ⟨bb, i, none⟩) rfl _
  have t8 : Tw w8 bw mo (fillL tok0 (fun j => tokT X l (j : Int)) mo (i + 1)) := by rw [e8]; exact h.aw.set hi _
  have t9 : Bw w9 bl mo (fillL false (fun j => decide ((j : Int) ∈ nums l)) mo (i + 1)) := by rw [e9]; exact (h.al.but b8 (fun e => n1 e.symm)).set hi _
  refine ⟨⟨((t8.but b9 n1).later hb).but b10 n2, (t9.later hb).but b10 n3, (((h.ab.but b8 (fun e => n2 e.symm)).but b9 (fun e => n3 e.symm)).later hb).set hi _⟩, ?_⟩
  exact ((b8.mono (fun k e => .inl e)).trans (b9.mono (fun k e => .inr (.inl e)))).trans ((But.of hb).trans (b10.mono (fun k e => .inr (.inr e))))
def cntN (l : Fo) (k : Nat) : Nat := cntF (fun x => decide (x ∈ nums l)) k
def cntG (l : Fo) (N : Int) (k : Nat) : Nat := cntF (fun x => decide (x ∈ G true l N)) k
def L1Rel (w5 : World) (bw bl bb mo : Nat) (X : List Tk) (l : Fo) (N : Int) (v t : Value) (W : World) : Prop :=
  ∃ i : Nat, i ≤ mo ∧ t = .int .i64 (i : Int) ∧ v = .int .i64 (cntN l i : Int) ∧ Arr W bw bl bb mo X l N i ∧ But (S3 bw bl bb) w5 W
def L2Rel (wd : World) (l : Fo) (N : Int) (mo : Nat) (v t : Value) (W : World) : Prop :=
  ∃ i : Nat, i ≤ mo ∧ t = .int .i64 (i : Int) ∧ v = .int .i64 (cntG l N i : Int) ∧ Below wd.heap.size wd W
set_option maxRecDepth 100000 in
set_option maxHeartbeats 8000000 in
theorem falls_law (x0 knob : Int) (a : Option Addr) (k0 cap : Nat) (f : Nat → Sp) (n : Int) (w : World) (hS : Ss w a k0 f) (hk : k0 ≤ 9223372036854775807) :
    Calls Try.prog 3 #[.int .i64 x0, .int .i64 knob, .slice a k0 cap, .int .i64 n] w fun e w' => e = .returned (.bool true) ∧ Below w.heap.size w w' := by
  have hi60 : intoN x0 60 < 60 := intoN_lt x0 (by omega)
  have hin1 := hid (into_any x0 60 w (by omega) (by omega))
  obtain ⟨mo, hmo⟩ : ∃ mo, mo = 1 + intoN x0 60 := ⟨_, rfl⟩
  have hm1 : 1 ≤ mo := by omega
  have hm2 : mo ≤ 60 := by omega
  have hgr := hid (grown_any mo knob a k0 cap f w hS hm1 (by omega) hk)
  generalize playG mo f k0 = s at hgr
  obtain ⟨X, l⟩ := s
  generalize intoN knob 65 = kn at hgr
  clear hS
  generalize intoN x0 60 = i60 at *
  go_enter Try.func3, Try.ntmps3
  go_upto_region 2 with (first | (go_at_call 6; refine hin1.out.mono ?_; rintro e w9 ⟨rfl, hw9⟩; obtain rfl := hw9.symm; clear hw9))
  have hmo' : (1 : Int) + (i60 : Int) = (mo : Int) := by omega
  rw [hmo']
  clear hmo' hmo hi60 hin1
  go_upto_region 3 with (first | (go_at_call 7; refine hgr.out.mono ?_; rintro e w1 ⟨A, rfl, hc1, hA1, hb1⟩; have HC1 := hid hc1; have HA := hid hA1; have HB1 := hid hb1; clear hc1 hA1 hb1))
  go_upto_region 5 with (first | (go_at_call 8; refine (known_any _).mono ?_; rintro e w2 ⟨rfl, hb2⟩; have HB2 := hid hb2; clear hb2))
  have hN : intoN n mo < mo := intoN_lt n (by omega)
  have hin2 := hid (into_any n mo w2 (by omega) (by omega))
  generalize intoN n mo = N at *
  go_upto_region 6 with (first | (go_at_call 6; refine hin2.out.mono ?_; rintro e w9 ⟨rfl, hw9⟩; obtain rfl := hw9.symm; clear hw9))
  clear hin2 hgr
  obtain ⟨w3, hr3, hW3, hB3⟩ := make_toks w2 mo (by omega)
  obtain ⟨w4, hr4, hL4, hB4⟩ := make_bools w3 mo (by omega)
  obtain ⟨w5, hr5, hT5, hB5⟩ := make_bools w4 mo (by omega)
  have n1 : w2.heap.size < w3.heap.size := hW3.lt
  have n2 : w3.heap.size < w4.heap.size := hL4.lt
  have n3 : w4.heap.size < w5.heap.size := hT5.lt
  have hArr0 : Hid (Arr w5 w2.heap.size w3.heap.size w4.heap.size mo X l (N : Int) 0) := ⟨(hW3.later hB4).later hB5, hL4.later hB5, hT5⟩
  have hB25 := below_call (below_call hB3 hB4) hB5
  have HC5 := hid ((HC1.out.later HB2.out).later hB25)
  have hAlt : Hid (∀ k, A.All k → k < w2.heap.size) := fun k hk => by have := HC1.out.lt k hk; have := HB2.out.size; omega
  have HB5w := hid (below_call (below_call HB1.out HB2.out) hB25)
  clear hW3 hL4 hT5 hB3 hB4 hB5 hB25
  go_upto_region 11 with fail
  clear hr3 hr4 hr5
  have hok := hid HC5.out.inv.ok
  go_loopw [13, 14] (L1Rel w5 w2.heap.size w3.heap.size w4.heap.size mo X l (N : Int)) (fun _ k _ => mo - (intOf k).toNat)
  case atStart => exact ⟨0, Nat.zero_le _, rfl, rfl, hArr0.out, But.refl _ _⟩
  case round =>
    obtain ⟨i, hi, rfl, rfl, hArr, hBW⟩ := hrel
    by_cases hlt : i < mo
    · have hCW : Hid (∀ W, But (S3 w2.heap.size w3.heap.size w4.heap.size) w5 W → Cat W A kn mo X l) := fun W hW => HC5.out.but hW (fun k hk e => by have := hAlt.out k hk; rcases e with rfl | rfl | rfl <;> omega)
      have hat := at_any (hCW.out _ hBW).cm (i : Int)
      rw [tokV_eq] at hat
      have hws := hBW.size
      have hle := cntF_le (fun x => decide (x ∈ nums l)) i
      change cntN l i ≤ i at hle
      by_cases hin : (i : Int) ∈ nums l
      · obtain ⟨p, hp⟩ := mem_nums.1 hin
        have hpar := par_eq hok.out hp
        have hsu : cntN l (i + 1) = cntN l i + 1 := by unfold cntN; rw [cntF_succ, if_pos (by simpa using hin)]
        have hd1 : decide ((i : Int) ∈ nums l) = true := decide_eq_true hin
        have hde : decide ((N : Int) ∈ U l (i : Int)) = decide ((i : Int) ∈ G true l (N : Int)) := decide_eq_decide.2 (mem_G_iff hok.out).symm
        have hST := hid (fun (w7 w8 w9 w9' : World) h e8 e9 hb => Arr.step (w7 := w7) (w8 := w8) (w9 := w9) (w9' := w9') (X := X) (l := l) (N := (N : Int)) (i := i) h hlt (bw := w2.heap.size) (bl := w3.heap.size) (bb := w4.heap.size) (by omega) (by omega) (by omega) e8 e9 hb)
        rw [hd1] at hat hST
        have hwide := HC5.out.inv.wide (i : Int) hin
        have hval := validB_iff.1 (HC5.out.inv.val (i : Int) hin)
        have hfi := fun W hW => cfind_any (hCW.out W hW) (tk X (i : Int)).1 hwide
        simp only [findN_in HC5.out.inv hin, hasC_iff.2 ⟨(i : Int), hin, rfl⟩] at hfi
        have hun := fun W hW => under_any (hCW.out W hW).cm (i : Int) (N : Int) hin (by omega)
        simp only [hde] at hun
        obtain ⟨Gs, hTold⟩ := HC5.out.inv.told hin
        have hto := fun W hW => told_any (hCW.out W hW) (ob X (i : Int)) hTold
        have hup := HC5.out.inv.up (i : Int) p hp
        obtain ⟨⟨ot, ht_, lt_⟩, r0, hxx⟩ : ∃ c r, tk X (i : Int) = (c, r) := ⟨_, _, rfl⟩
        obtain ⟨rt, hrt⟩ : ∃ r, r = rg X (i : Int) := ⟨_, rfl⟩
        have htt : tokT X l (i : Int) = ((ot, ht_, lt_), rt, p) := by unfold tokT; rw [if_pos hin, hxx, hpar, ← hrt]
        have hob : ob X (i : Int) = ot := by unfold ob; rw [hxx]
        rw [htt] at hat hST
        rw [← hrt] at hval
        rw [hob, ← hrt] at hup
        simp only [hxx] at hfi
        simp only [hob] at hto
        obtain ⟨dg, hdg⟩ : ∃ b, b = decide ((i : Int) ∈ G true l (N : Int)) := ⟨_, rfl⟩
        rw [← hdg] at hST
        simp only [← hdg] at hun
        have hpc : p = -1 ∨ (0 ≤ p ∧ ∃ pp, (p, pp) ∈ l) := by
          rcases hok.out.up hp with h1 | h1
          · exact .inl h1
          · exact .inr ⟨nums_nn hok.out h1, mem_nums.1 h1⟩
        have hv1 : ¬ rt < 1 := by omega
        have hv2 : ¬ 31 < rt := by omega
        have HAT := hid hat
        have HSU := hid hsu
        have HARR := hid hArr
        have HBW := hid hBW
        have HFI := hid hfi
        have HUN := hid hun
        have HTO := hid hto
        have HUP := hid hup
        clear hat hsu hArr hBW hin hd1 hde htt hTold hto hun hfi hwide hval hxx hrt hob hdg hpar hp hup
        generalize cntN l i = ci at *
        go_upto_region 14 with (first | (go_at_call 9; refine HAT.out.mono ?_; rintro e w6 ⟨rfl, hb6⟩; have HB6 := hid hb6; clear hb6))
        obtain ⟨w7, hw7⟩ : ∃ w7, w7 = w6.alloc (Obj.cells #[.int .i64 ot, .int .u64 (ht_ : Int), .int .u64 (lt_ : Int), .int .i64 rt, .int .i64 p] 35) := ⟨_, rfl⟩
        have hB7 : Below wr.heap.size wr w7 := below_call HB6.out (by rw [hw7]; exact below1 _ _)
        have t0 : w7.cell? ⟨w6.heap.size, 0, none⟩ = some (.int .i64 ot) := by rw [hw7]; simp [go_sem]
        have t1 : w7.cell? ⟨w6.heap.size, 1, none⟩ = some (.int .u64 (ht_ : Int)) := by rw [hw7]; simp [go_sem]
        have t2 : w7.cell? ⟨w6.heap.size, 2, none⟩ = some (.int .u64 (lt_ : Int)) := by rw [hw7]; simp [go_sem]
        have t3 : w7.cell? ⟨w6.heap.size, 3, none⟩ = some (.int .i64 rt) := by rw [hw7]; simp [go_sem]
        have t4 : w7.cell? ⟨w6.heap.size, 4, none⟩ = some (.int .i64 p) := by rw [hw7]; simp [go_sem]
        have hA7 := HARR.out.later hB7
        have hs6 : wr.heap.size ≤ w6.heap.size := HB6.out.size
        rw [← hw7]
        clear hw7
        obtain ⟨z, hz⟩ := get_some (L := fillL tok0 (fun j => tokT X l (j : Int)) mo i) (i := i) (by rw [fill_len]; exact hlt)
        obtain ⟨c0, c1, c2, c3, c4⟩ := hA7.aw.at_ i z hz
        have fr := hA7.aw.fr
        obtain ⟨w8, hw8⟩ : ∃ w8, w8 = set5o w7 w2.heap.size (i * 5) ((ot, ht_, lt_), rt, p) := ⟨_, rfl⟩
        have hb8 : But (· = w2.heap.size) w7 w8 := by rw [hw8]; exact set5o_but (S := (· = w2.heap.size)) (But.refl _ _) rfl _ _
        have hL8 := hA7.al.but hb8 (by show ¬ w3.heap.size = w2.heap.size; omega)
        obtain ⟨y, hy⟩ := get_some (L := fillL false (fun j => decide ((j : Int) ∈ nums l)) mo i) (i := i) (by rw [fill_len]; exact hlt)
        have d0 := hL8.at_ i y hy
        have fr2 := hL8.fr
        obtain ⟨w9, hw9⟩ : ∃ w9, w9 = w8.setCell ⟨w3.heap.size, i, none⟩ (.bool true) := ⟨_, rfl⟩
        have hb9 : But (· = w3.heap.size) w8 w9 := by rw [hw9]; exact (But.refl (· = w3.heap.size) w8).setCell (p := ⟨w3.heap.size, i, none⟩) rfl _
        have hT9 := (hA7.ab.but hb8 (by show ¬ w4.heap.size = w2.heap.size; omega)).but hb9 (by show ¬ w4.heap.size = w3.heap.size; omega)
        obtain ⟨x, hx⟩ := get_some (L := fillL false (fun j => decide ((j : Int) ∈ G true l (N : Int))) mo i) (i := i) (by rw [fill_len]; exact hlt)
        have hb79 : But (S3 w2.heap.size w3.heap.size w4.heap.size) w7 w9 := (hb8.mono (fun k e => .inl e)).trans (hb9.mono (fun k e => .inr (.inl e)))
        have HB7 := hid (HBW.out.trans (But.of (S := S3 w2.heap.size w3.heap.size w4.heap.size) hB7))
        have HU9 := hid (HUN.out w9 (HB7.out.trans hb79))
        have HFIN := hid (fun w9' (hb : Below w9.heap.size w9 w9') => (show (w9'.cell? ⟨w4.heap.size, i, none⟩ = some (.bool x) ∧ ∀ j, w9'.frozen? ⟨w4.heap.size, j, none⟩ = false) ∧ _ from ⟨⟨(hT9.later hb).at_ i x hx, (hT9.later hb).fr⟩, hST.out w7 w8 w9 w9' hA7 hw8 hw9 hb⟩))
        have HCE : Hid (∀ W, But (S3 w2.heap.size w3.heap.size w4.heap.size) w7 W → W.cell? ⟨w6.heap.size, 0, none⟩ = some (.int .i64 ot) ∧ W.cell? ⟨w6.heap.size, 1, none⟩ = some (.int .u64 (ht_ : Int)) ∧ W.cell? ⟨w6.heap.size, 2, none⟩ = some (.int .u64 (lt_ : Int)) ∧ W.cell? ⟨w6.heap.size, 3, none⟩ = some (.int .i64 rt) ∧ W.cell? ⟨w6.heap.size, 4, none⟩ = some (.int .i64 p)) := fun W hW => by
          have hn : ¬ S3 w2.heap.size w3.heap.size w4.heap.size w6.heap.size := by rintro (e | e | e) <;> omega
          exact ⟨cell_but hW t0 hn, cell_but hW t1 hn, cell_but hW t2 hn, cell_but hW t3 hn, cell_but hW t4 hn⟩
        clear hA7 hL8 hT9 hz hy hx hb8 hb9 hST hB7 hb79
        go_upto_region 15 with fail
        rw [show (((((w7.setCell ⟨w2.heap.size, i * 5, none⟩ (.int .i64 ot)).setCell ⟨w2.heap.size, i * 5 + 1, none⟩ (.int .u64 (ht_ : Int))).setCell ⟨w2.heap.size, i * 5 + 2, none⟩ (.int .u64 (lt_ : Int))).setCell ⟨w2.heap.size, i * 5 + 3, none⟩ (.int .i64 rt)).setCell ⟨w2.heap.size, i * 5 + 4, none⟩ (.int .i64 p)) = w8 from hw8.symm]
        clear hw8 c0 c1 c2 c3 c4 fr t0 t1 t2 t3 t4
        go_upto_region 16 with fail
        rw [← hw9]
        clear hw9 d0 fr2
        go_upto_region 17 with (first | (go_at_call 10; refine HU9.out.mono ?_; rintro e w9' ⟨rfl, hb10⟩; obtain ⟨⟨q0, q1⟩, hfin⟩ := HFIN.out w9' hb10; have HFI2 := hid hfin; clear hb10 hfin))
        obtain ⟨w10, hw10⟩ : ∃ w10, w10 = w9'.setCell ⟨w4.heap.size, i, none⟩ (.bool dg) := ⟨_, rfl⟩
        rw [← hw10] at HFI2
        rw [← hw10]
        clear hw10 q0 q1 HFIN HU9
        obtain ⟨t0, t1, t2, t3, t4⟩ := HCE.out w10 HFI2.out.2
        have HB10 := hid (HB7.out.trans HFI2.out.2)
        have HF10 := hid (HFI.out w10 HB10.out)
        go_upto_region 20 with (first | (go_at_call 11; refine HF10.out.mono ?_; rintro e w11 ⟨rfl, hb11⟩; have HB11 := hid hb11; clear hb11))
        clear t0 t1 t2 t3 t4
        obtain ⟨t0, t1, t2, t3, t4⟩ := HCE.out w11 (HFI2.out.2.trans (But.of HB11.out))
        have hBS11 := HB10.out.trans (But.of (S := S3 w2.heap.size w3.heap.size w4.heap.size) HB11.out)
        rcases hpc with rfl | ⟨hp0, pp, hpp⟩
        · have HT11 := hid (HTO.out w11 hBS11)
          have HBS11 := hid hBS11
          clear hBS11
          go_wp2_with (first | (go_at_call 12; refine HT11.out.mono ?_; rintro e w12 ⟨rfl, hb12⟩; have HB12 := hid hb12; clear hb12))
          refine ⟨⟨i + 1, by omega, by go_num, by rw [HSU.out]; go_num, (HFI2.out.1.later HB11.out).later HB12.out, HBS11.out.trans (But.of HB12.out)⟩, by simp [intOf]; omega⟩
        · have hnl : ¬ p < 0 := by omega
          have hge : (0 : Int) ≤ p := hp0
          have hup2 := HUP.out (by omega)
          have hat2 := at_in (hCW.out w11 hBS11).cm p pp hpp
          obtain ⟨⟨op, hp_, lp⟩, r1, hxp⟩ : ∃ c r, tk X p = (c, r) := ⟨_, _, rfl⟩
          obtain ⟨rp, hrp⟩ : ∃ r, r = rg X p := ⟨_, rfl⟩
          obtain rfl : ot = op := by rw [hup2.1]; unfold ob; rw [hxp]
          rw [hxp, ← hrp] at hat2
          rw [← hrp] at hup2
          have hor := part_or hup2.2
          have HAT2 := hid hat2
          have HBS11 := hid hBS11
          clear hBS11 hat2 hxp hrp hup2 hpp
          go_upto_region 24 with (first | (go_at_call 9; refine HAT2.out.mono ?_; rintro e w12 ⟨rfl, hb12⟩; have HB12 := hid hb12; clear hb12))
          obtain ⟨w13, hw13⟩ : ∃ w13, w13 = w12.alloc (Obj.cells #[.int .i64 ot, .int .u64 (hp_ : Int), .int .u64 (lp : Int), .int .i64 rp, .int .i64 pp] 35) := ⟨_, rfl⟩
          have hB13 : Below w11.heap.size w11 w13 := below_call HB12.out (by rw [hw13]; exact below1 _ _)
          have s0 : w13.cell? ⟨w12.heap.size, 0, none⟩ = some (.int .i64 ot) := by rw [hw13]; simp [go_sem]
          have s3 : w13.cell? ⟨w12.heap.size, 3, none⟩ = some (.int .i64 rp) := by rw [hw13]; simp [go_sem]
          rw [← hw13]
          clear hw13 t0 t1 t2 t3 t4
          obtain ⟨t0, t1, t2, t3, t4⟩ := HCE.out w13 ((HFI2.out.2.trans (But.of HB11.out)).trans (But.of hB13))
          have hBS13 := HBS11.out.trans (But.of (S := S3 w2.heap.size w3.heap.size w4.heap.size) hB13)
          have HT13 := hid (HTO.out w13 hBS13)
          have HBS13 := hid hBS13
          have HB13 := hid hB13
          clear hBS13 hB13
          go_wp2_with (first | (go_at_call 12; refine HT13.out.mono ?_; rintro e w14 ⟨rfl, hb14⟩; have HB14 := hid hb14; clear hb14))
          refine ⟨⟨i + 1, by omega, by go_num, by rw [HSU.out]; go_num, ((HFI2.out.1.later HB11.out).later HB13.out).later HB14.out, HBS13.out.trans (But.of HB14.out)⟩, by simp [intOf]; omega⟩
      · have hsu : cntN l (i + 1) = cntN l i := by unfold cntN; rw [cntF_succ, if_neg (by simpa using hin)]; rfl
        have hd1 : decide ((i : Int) ∈ nums l) = false := decide_eq_false hin
        have hd2 : decide ((i : Int) ∈ G true l (N : Int)) = false := decide_eq_false (fun hm => hin (G_nums hok.out hm))
        have hST := hid (fun (w7 w8 w9 w9' : World) h e8 e9 hb => Arr.step (w7 := w7) (w8 := w8) (w9 := w9) (w9' := w9') (X := X) (l := l) (N := (N : Int)) (i := i) h hlt (bw := w2.heap.size) (bl := w3.heap.size) (bb := w4.heap.size) (by omega) (by omega) (by omega) e8 e9 hb)
        rw [hd1] at hat hST
        rw [hd2] at hST
        obtain ⟨⟨ot, ht_, lt_⟩, rt, pt, htt⟩ : ∃ c r p, tokT X l (i : Int) = (c, r, p) := ⟨_, _, _, rfl⟩
        rw [htt] at hat hST
        have HAT := hid hat
        have HSU := hid hsu
        have HARR := hid hArr
        have HBW := hid hBW
        clear hat hsu hArr hBW hin hd1 hd2 htt hCW
        generalize cntN l i = ci at *
        go_upto_region 14 with (first | (go_at_call 9; refine HAT.out.mono ?_; rintro e w6 ⟨rfl, hb6⟩; have HB6 := hid hb6; clear hb6))
        obtain ⟨w7, hw7⟩ : ∃ w7, w7 = w6.alloc (Obj.cells #[.int .i64 ot, .int .u64 (ht_ : Int), .int .u64 (lt_ : Int), .int .i64 rt, .int .i64 pt] 35) := ⟨_, rfl⟩
        have hB7 : Below wr.heap.size wr w7 := below_call HB6.out (by rw [hw7]; exact below1 _ _)
        have t0 : w7.cell? ⟨w6.heap.size, 0, none⟩ = some (.int .i64 ot) := by rw [hw7]; simp [go_sem]
        have t1 : w7.cell? ⟨w6.heap.size, 1, none⟩ = some (.int .u64 (ht_ : Int)) := by rw [hw7]; simp [go_sem]
        have t2 : w7.cell? ⟨w6.heap.size, 2, none⟩ = some (.int .u64 (lt_ : Int)) := by rw [hw7]; simp [go_sem]
        have t3 : w7.cell? ⟨w6.heap.size, 3, none⟩ = some (.int .i64 rt) := by rw [hw7]; simp [go_sem]
        have t4 : w7.cell? ⟨w6.heap.size, 4, none⟩ = some (.int .i64 pt) := by rw [hw7]; simp [go_sem]
        have hA7 := HARR.out.later hB7
        rw [← hw7]
        clear hw7
        obtain ⟨z, hz⟩ := get_some (L := fillL tok0 (fun j => tokT X l (j : Int)) mo i) (i := i) (by rw [fill_len]; exact hlt)
        obtain ⟨c0, c1, c2, c3, c4⟩ := hA7.aw.at_ i z hz
        have fr := hA7.aw.fr
        obtain ⟨w8, hw8⟩ : ∃ w8, w8 = set5o w7 w2.heap.size (i * 5) ((ot, ht_, lt_), rt, pt) := ⟨_, rfl⟩
        have hb8 : But (· = w2.heap.size) w7 w8 := by rw [hw8]; exact set5o_but (S := (· = w2.heap.size)) (But.refl _ _) rfl _ _
        have hL8 := hA7.al.but hb8 (by show ¬ w3.heap.size = w2.heap.size; omega)
        obtain ⟨y, hy⟩ := get_some (L := fillL false (fun j => decide ((j : Int) ∈ nums l)) mo i) (i := i) (by rw [fill_len]; exact hlt)
        have d0 := hL8.at_ i y hy
        have fr2 := hL8.fr
        obtain ⟨w9, hw9⟩ : ∃ w9, w9 = w8.setCell ⟨w3.heap.size, i, none⟩ (.bool false) := ⟨_, rfl⟩
        have hb9 : But (· = w3.heap.size) w8 w9 := by rw [hw9]; exact (But.refl (· = w3.heap.size) w8).setCell (p := ⟨w3.heap.size, i, none⟩) rfl _
        have hT9 := (hA7.ab.but hb8 (by show ¬ w4.heap.size = w2.heap.size; omega)).but hb9 (by show ¬ w4.heap.size = w3.heap.size; omega)
        obtain ⟨x, hx⟩ := get_some (L := fillL false (fun j => decide ((j : Int) ∈ G true l (N : Int))) mo i) (i := i) (by rw [fill_len]; exact hlt)
        have e0 := hT9.at_ i x hx
        have fr3 := hT9.fr
        have HFIN := hid (hST.out w7 w8 w9 w9 hA7 hw8 hw9 (Below.refl _ _))
        have HB7 := hid hB7
        clear hA7 hL8 hT9 hz hy hx hb8 hb9 hST hB7
        go_upto_region 15 with fail
        rw [show (((((w7.setCell ⟨w2.heap.size, i * 5, none⟩ (.int .i64 ot)).setCell ⟨w2.heap.size, i * 5 + 1, none⟩ (.int .u64 (ht_ : Int))).setCell ⟨w2.heap.size, i * 5 + 2, none⟩ (.int .u64 (lt_ : Int))).setCell ⟨w2.heap.size, i * 5 + 3, none⟩ (.int .i64 rt)).setCell ⟨w2.heap.size, i * 5 + 4, none⟩ (.int .i64 pt)) = w8 from hw8.symm]
        clear hw8
        go_upto_region 16 with fail
        rw [← hw9]
        clear hw9
        go_wp2
        refine ⟨⟨i + 1, by omega, by go_num, by rw [HSU.out], HFIN.out.1, (HBW.out.trans (But.of HB7.out)).trans HFIN.out.2⟩, by simp [intOf]; omega⟩
    · have him : i = mo := by omega
      rw [him] at hArr
      have HINV := hid HC5.out.inv
      have hcn := cntF_all HINV.out.ok.nodup HINV.out.ok.range
      change cntN l mo = _ at hcn
      rw [nums_len, ← him] at hcn
      rw [hcn]
      have hCW := HC5.out.but hBW (fun k hk e => by have := hAlt.out k hk; rcases e with rfl | rfl | rfl <;> omega)
      have HCT := hid (ccount_any hCW)
      have hdr := hid (cdrop_any hCW (N : Int))
      unfold Dropped at hdr
      rw [dropS_eq, drop_if] at hdr
      obtain ⟨cd, hcd⟩ : ∃ cd : Int, cd = if (N : Int) ∈ nums (⟨X, l⟩ : St).l then 0 else 20 := ⟨_, rfl⟩
      rw [← hcd] at hdr
      have HCDE : Hid (cd = if (N : Int) ∈ nums l then 0 else 20) := hcd
      have hl60 : l.length ≤ mo := HINV.out.ok.len
      have HWR : Hid (Below w.heap.size w wr) := But.below HB5w.out hBW (fun k e => by have := HB2.out.size; have := HB1.out.size; rcases e with rfl | rfl | rfl <;> omega)
      have HARW := hid hArr
      have HGL : Hid ((G true l (N : Int)).length ≤ mo) := G_len HINV.out.ok _ _
      have HRDK : Hid (∀ (W : World) (base : Nat) (aa : Option Addr) (cc : Nat), Ow W base 33 3 aa (G true l (N : Int)).length cc (caps ((G true l (N : Int)).map (fun k => (tk X k).1))) → Rd W aa (G true l (N : Int)).length ((G true l (N : Int)).map (fun k => (tk X k).1))) := fun W base aa cc h => h.rd (by simp)
      obtain ⟨lg, hlg⟩ : ∃ lg, lg = (G true l (N : Int)).length := ⟨_, rfl⟩
      have HLG := hid hlg
      rw [show (⟨X, l⟩ : St).l = l from rfl, show (⟨X, l⟩ : St).X = X from rfl, ← hlg] at hdr
      rw [← hlg] at HRDK HGL
      clear hArr hBW hCW hcd hlg
      go_upto_region 30 with (first | (go_at_call 13; refine HCT.out.mono ?_; rintro e w9 ⟨rfl, hw9⟩; obtain rfl := hw9.symm; clear hw9))
      go_upto_region 31 with (first | (go_at_call 14; refine hdr.out.mono ?_; rintro e wd ⟨a9, c9, rfl, hO9, hc9, hb9⟩; have HO9 := hid hO9; have HCD := hid hc9; have HBD := hid hb9; clear hO9 hc9 hb9))
      have HWRl := hid (fun k (hk : A.Wr k) => hAlt.out k (.inr (.inr hk)))
      have HARR : Hid (Arr wd w2.heap.size w3.heap.size w4.heap.size mo X l (N : Int) mo) := HARW.out.but HBD.out (fun e => by have := HWRl.out _ e; omega) (fun e => by have := HWRl.out _ e; omega) (fun e => by have := HWRl.out _ e; omega)
      have HWD : Hid (Below w.heap.size w wd) := But.below HWR.out HBD.out (fun k hk => HA.out k (.inr (.inr hk)))

      go_cut [194] from 155 to 193 (fun s W => s = .bool false ∧ Below wd.heap.size wd W)
      case first =>
        by_cases hNn : (N : Int) ∈ nums l
        · have hcd := HCDE.out
          rw [if_pos hNn] at hcd
          subst hcd
          have hG := G_eq HINV.out.ok (e := true) hNn
          have hGl : 0 < lg := by rw [HLG.out, hG]; simp
          have hrd := HRDK.out _ _ _ _ HO9.out
          obtain ⟨gb, go_, rfl, hgc⟩ := hrd.at_ hGl
          have hg0 := hgc 0 (tk X (N : Int)).1 (by rw [hG]; rfl)
          have htt : tokT X l (N : Int) = ((tk X (N : Int)).1, rg X (N : Int), par l (N : Int)) := by unfold tokT; rw [if_pos hNn]
          have v1 := HARR.out.al.at_ N _ (fill_get false _ mo mo N hN (Nat.le_refl _))
          have v3 := HARR.out.aw.at_ N _ (fill_get tok0 _ mo mo N hN (Nat.le_refl _))
          rw [decide_eq_true hNn] at v1
          rw [htt] at v3
          obtain ⟨⟨ot, ht_, lt_⟩, r0, hxx⟩ : ∃ c r, tk X (N : Int) = (c, r) := ⟨_, _, rfl⟩
          rw [hxx] at v3 hg0
          obtain ⟨v30, v31, v32, v33, v34⟩ := v3
          obtain ⟨g0, g1, g2⟩ := hg0
          simp only [Nat.zero_mul, Nat.add_zero] at v30 v31 v32 v33 v34 g0 g1 g2
          have hz : ((lg : Int) == 0) = false := beq_eq_false_iff_ne.2 (by omega)
          have heq := fun W => neqC ot (ht_ : Int) (lt_ : Int) ot (ht_ : Int) (lt_ : Int) W
          simp only [show cEq ot (ht_ : Int) (lt_ : Int) ot (ht_ : Int) (lt_ : Int) = true by simp [cEq]] at heq
          clear hG hgc hrd htt hxx
          go_quiet (fail)
          go_wp2
          go_meet
          exact ⟨rfl, below_drewN (Below.refl _ _) _⟩
        · have hcd := HCDE.out
          rw [if_neg hNn] at hcd
          subst hcd
          have v1 := HARR.out.al.at_ N _ (fill_get false _ mo mo N hN (Nat.le_refl _))
          rw [decide_eq_false hNn] at v1
          have hl0 : lg = 0 := by rw [HLG.out, G_out hNn]; rfl
          subst hl0
          go_quiet (fail)
          go_wp2
          go_meet
          exact ⟨rfl, below_drewN (Below.refl _ _) _⟩
      case rest =>
        obtain ⟨rfl, hBd⟩ := hcut
        have HBd := hid hBd
        clear hBd
        go_upto_region 35 with fail
        go_loopw [23, 24] (L2Rel wd l (N : Int) mo) (fun _ k _ => mo - (intOf k).toNat)
        case atStart => exact ⟨0, Nat.zero_le _, rfl, rfl, HBd.out⟩
        case round =>
          obtain ⟨j, hj, rfl, rfl, hBj⟩ := hrel
          by_cases hjlt : j < mo
          · have hCj := HCD.out.later hBj
            have hat := at_any hCj.cm (j : Int)
            rw [tokV_eq] at hat
            have hAj := HARR.out.later hBj
            have e1 := hAj.al.at_ j _ (fill_get false _ mo mo j hjlt (Nat.le_refl _))
            have e2 := hAj.ab.at_ j _ (fill_get false _ mo mo j hjlt (Nat.le_refl _))
            have e3 := hAj.aw.at_ j _ (fill_get tok0 _ mo mo j hjlt (Nat.le_refl _))
            have hsu := cntF_succ (fun x => decide (x ∈ G true l (N : Int))) j
            change cntG l (N : Int) (j + 1) = cntG l (N : Int) j + _ at hsu
            have hle := cntF_le (fun x => decide (x ∈ G true l (N : Int))) j
            change cntG l (N : Int) j ≤ j at hle
            have HBj := hid hBj
            have HAjL := hid (fun W (hW : Below wr.heap.size wr W) => (HARR.out.later (below_call hBj hW)).aw.at_ j _ (fill_get tok0 _ mo mo j hjlt (Nat.le_refl _)))
            by_cases hjn : (j : Int) ∈ nums l
            · by_cases hjG : (j : Int) ∈ G true l (N : Int)
              · have hn' : (j : Int) ∉ nums (cuts l (G true l (N : Int))) := fun hm => (nums_cuts.1 hm).2 hjG
                have htt : tokT X l (j : Int) = ((tk X (j : Int)).1, rg X (j : Int), par l (j : Int)) := by unfold tokT; rw [if_pos hjn]
                have hwide := HINV.out.wide (j : Int) hjn
                have hfi := fun W (hW : Below wd.heap.size wd W) => cfind_any (HCD.out.later hW) (tk X (j : Int)).1 hwide
                simp only [hasC_cut HINV.out hjG, findN_out (hasC_cut HINV.out hjG)] at hfi
                rw [decide_eq_true hjn] at e1
                rw [decide_eq_true hjG] at e2
                rw [htt] at e3 HAjL
                rw [decide_eq_false hn'] at hat
                rw [if_pos (by simpa using hjG)] at hsu
                obtain ⟨⟨ot, ht_, lt_⟩, r0, hxx⟩ : ∃ c r, tk X (j : Int) = (c, r) := ⟨_, _, rfl⟩
                rw [hxx] at e3 HAjL
                simp only [hxx] at hfi
                obtain ⟨e30, e31, e32, e33, e34⟩ := e3
                simp only at e30 e31 e32 e33 e34
                obtain ⟨⟨⟨o2, h2_, l2_⟩, r2, p2⟩, ht2⟩ : ∃ c, tokT (zer X (G true l (N : Int))) (cuts l (G true l (N : Int))) (j : Int) = c := ⟨_, rfl⟩
                rw [ht2] at hat
                have HAT := hid hat
                have HSU := hid hsu
                have HFI := hid hfi
                clear hat hsu hfi hBj hAj hCj hjn hjG hn' htt hwide hxx ht2 e34 e33
                generalize cntG l (N : Int) j = cj at *
                go_upto_region 38 with (first | (go_at_call 9; refine HAT.out.mono ?_; rintro e w7 ⟨rfl, hb7⟩; have HB7 := hid hb7; clear hb7))
                obtain ⟨w8, hw8⟩ : ∃ w8, w8 = w7.alloc (Obj.cells #[.int .i64 o2, .int .u64 (h2_ : Int), .int .u64 (l2_ : Int), .int .i64 r2, .int .i64 p2] 35) := ⟨_, rfl⟩
                have hB8 : Below wr.heap.size wr w8 := below_call HB7.out (by rw [hw8]; exact below1 _ _)
                rw [← hw8]
                clear hw8
                have f1 := cell_later hB8 e1
                have f2 := cell_later hB8 e2
                go_quiet (fail)
                have HB9 := hid (below_drewN hB8 nq)
                generalize hwq : w8.drewN nq = w9 at HB9 ⊢
                have g2 := cell_later HB9.out e2
                obtain ⟨k0, k1, k2, k3, k4⟩ := HAjL.out w9 HB9.out
                simp only at k0 k1 k2 k3 k4
                have HF9 := hid (HFI.out w9 (below_call HBj.out HB9.out))
                clear hwq f1 f2 e1 e2 e30 e31 e32 hB8
                go_wp2_with (first | (go_at_call 11; refine HF9.out.mono ?_; rintro e w10 ⟨rfl, hb10⟩; have HB10 := hid hb10; clear hb10))
                exact ⟨⟨j + 1, by omega, by go_num, by rw [HSU.out]; go_num, below_call (below_call HBj.out HB9.out) HB10.out⟩, by simp [intOf]; omega⟩
              · have hy' : (j : Int) ∈ nums (cuts l (G true l (N : Int))) := nums_cuts.2 ⟨hjn, hjG⟩
                rw [decide_eq_true hjn] at e1
                rw [decide_eq_false hjG] at e2
                rw [decide_eq_true hy', tokT_cut HINV.out HCD.out.inv.ok hy'] at hat
                rw [if_neg (by simpa using hjG)] at hsu
                obtain ⟨⟨⟨o2, h2_, l2_⟩, r2, p2⟩, ht2⟩ : ∃ c, tokT X l (j : Int) = c := ⟨_, rfl⟩
                rw [ht2] at hat e3
                obtain ⟨e30, e31, e32, e33, e34⟩ := e3
                simp only at e30 e31 e32 e33 e34
                have HAT := hid hat
                have HSU := hid hsu
                have heq := fun W => neqT o2 (h2_ : Int) (l2_ : Int) r2 p2 o2 (h2_ : Int) (l2_ : Int) r2 p2 W
                simp only [show tEq o2 (h2_ : Int) (l2_ : Int) r2 p2 o2 (h2_ : Int) (l2_ : Int) r2 p2 = true by simp [tEq]] at heq
                clear hat hsu hBj hAj hCj hjn hjG hy' ht2
                generalize cntG l (N : Int) j = cj at *
                go_upto_region 38 with (first | (go_at_call 9; refine HAT.out.mono ?_; rintro e w7 ⟨rfl, hb7⟩; have HB7 := hid hb7; clear hb7))
                obtain ⟨w8, hw8⟩ : ∃ w8, w8 = w7.alloc (Obj.cells #[.int .i64 o2, .int .u64 (h2_ : Int), .int .u64 (l2_ : Int), .int .i64 r2, .int .i64 p2] 35) := ⟨_, rfl⟩
                have hB8 : Below wr.heap.size wr w8 := below_call HB7.out (by rw [hw8]; exact below1 _ _)
                have s0 : w8.cell? ⟨w7.heap.size, 0, none⟩ = some (.int .i64 o2) := by rw [hw8]; simp [go_sem]
                have s1 : w8.cell? ⟨w7.heap.size, 1, none⟩ = some (.int .u64 (h2_ : Int)) := by rw [hw8]; simp [go_sem]
                have s2 : w8.cell? ⟨w7.heap.size, 2, none⟩ = some (.int .u64 (l2_ : Int)) := by rw [hw8]; simp [go_sem]
                have s3 : w8.cell? ⟨w7.heap.size, 3, none⟩ = some (.int .i64 r2) := by rw [hw8]; simp [go_sem]
                have s4 : w8.cell? ⟨w7.heap.size, 4, none⟩ = some (.int .i64 p2) := by rw [hw8]; simp [go_sem]
                rw [← hw8]
                clear hw8
                have f1 := cell_later hB8 e1
                have f2 := cell_later hB8 e2
                have f30 := cell_later hB8 e30
                have f31 := cell_later hB8 e31
                have f32 := cell_later hB8 e32
                have f33 := cell_later hB8 e33
                have f34 := cell_later hB8 e34
                go_quiet (fail)
                have HB9 := hid (below_drewN hB8 nq)
                generalize hwq : w8.drewN nq = w9 at HB9 ⊢
                have g2 := cell_later HB9.out e2
                clear hwq f1 f2 f30 f31 f32 f33 f34 e1 e2 e30 e31 e32 e33 e34 s0 s1 s2 s3 s4 hB8 heq
                go_wp2
                exact ⟨⟨j + 1, by omega, by go_num, by rw [HSU.out]; go_num, below_call HBj.out HB9.out⟩, by simp [intOf]; omega⟩
            · have hjG : (j : Int) ∉ G true l (N : Int) := fun hm => hjn (G_nums HINV.out.ok hm)
              have hn' : (j : Int) ∉ nums (cuts l (G true l (N : Int))) := fun hm => hjn (nums_cuts.1 hm).1
              rw [decide_eq_false hjn] at e1
              rw [decide_eq_false hjG] at e2
              rw [decide_eq_false hn'] at hat
              rw [if_neg (by simpa using hjG)] at hsu
              obtain ⟨⟨⟨o2, h2_, l2_⟩, r2, p2⟩, ht2⟩ : ∃ c, tokT (zer X (G true l (N : Int))) (cuts l (G true l (N : Int))) (j : Int) = c := ⟨_, rfl⟩
              rw [ht2] at hat
              have HAT := hid hat
              have HSU := hid hsu
              clear hat hsu hBj hAj hCj hjn hjG hn' ht2 e3
              generalize cntG l (N : Int) j = cj at *
              go_upto_region 38 with (first | (go_at_call 9; refine HAT.out.mono ?_; rintro e w7 ⟨rfl, hb7⟩; have HB7 := hid hb7; clear hb7))
              obtain ⟨w8, hw8⟩ : ∃ w8, w8 = w7.alloc (Obj.cells #[.int .i64 o2, .int .u64 (h2_ : Int), .int .u64 (l2_ : Int), .int .i64 r2, .int .i64 p2] 35) := ⟨_, rfl⟩
              have hB8 : Below wr.heap.size wr w8 := below_call HB7.out (by rw [hw8]; exact below1 _ _)
              rw [← hw8]
              clear hw8
              have f1 := cell_later hB8 e1
              have f2 := cell_later hB8 e2
              go_quiet (fail)
              have HB9 := hid (below_drewN hB8 nq)
              generalize hwq : w8.drewN nq = w9 at HB9 ⊢
              have g2 := cell_later HB9.out e2
              clear hwq f1 f2 e1 e2 hB8
              go_wp2
              exact ⟨⟨j + 1, by omega, by go_num, by rw [HSU.out]; go_num, below_call HBj.out HB9.out⟩, by simp [intOf]; omega⟩
          · obtain rfl : j = mo := by omega
            have hcg := cntF_all (G_nodup HINV.out.ok true (N : Int)) (fun x hx => HINV.out.ok.range x (G_nums HINV.out.ok hx))
            change cntG l (N : Int) j = _ at hcg
            have hcl := cuts_len HINV.out.ok (G_nodup HINV.out.ok true (N : Int)) (fun x hx => G_nums HINV.out.ok hx)
            have hct : Calls Try.prog 13 #[.pointer (some ⟨A.g, 0, none⟩)] wr fun e w' => e = .returned (.int .i64 ((cuts l (G true l (N : Int))).length : Int)) ∧ w' = wr := ccount_any (HCD.out.later hBj)
            have hsub : (l.length : Int) - (lg : Int) = ((cuts l (G true l (N : Int))).length : Int) := by rw [← HLG.out] at hcl; omega
            have hl60 : l.length ≤ j := HINV.out.ok.len
            rw [← HLG.out] at hcg
            rw [hcg]
            have HCT2 := hid hct
            have HBj := hid hBj
            clear hct hBj hcg
            generalize (cuts l (G true l (N : Int))).length = lc at *
            generalize l.length = ll at *
            go_wp2_with (first | (go_at_call 13; refine HCT2.out.mono ?_; rintro e w10 ⟨rfl, hw10⟩; obtain rfl := hw10.symm; clear hw10))
            go_ret
            refine ⟨ret_bool (by simp), below_call HWD.out HBj.out⟩
end Go.Proofs.Ytgdhdfmgfncdkaa
