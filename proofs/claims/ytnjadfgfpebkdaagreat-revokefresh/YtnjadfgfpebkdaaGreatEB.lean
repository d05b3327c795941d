import Derived.Test.YtnjadfgfpebkdaaGreatEA
namespace Go.Proofs.YtnjadfgfpebkdaaGreat.D
open Go.RowKit
open Go.Proofs.YtnjadfgfpebkdaaGreat.H (B64 Cp)
set_option linter.unusedVariables false

set_option maxRecDepth 100000 in
set_option maxHeartbeats 2000000 in
theorem object_any {w : World} {H : Hd} {s d : Sta} {T : Nat} {N : Nat → Prop} (h : Duo w H s d T N) (c : Cp) (hw : c.2.1 < B64 ∧ c.2.2 < B64) (hc1 : S.i64ok c.1) :
    Calls Tryz.prog 12 #[.pointer (some ⟨H.A.g, 0, none⟩), .pointer (some ⟨H.qg, 0, none⟩), .pointer (some ⟨H.z.s, 0, none⟩), cpV c] w (Took w H (revA true s c) d T N) := by
  obtain ⟨o, hi, lo⟩ := c
  obtain ⟨w0, hw0⟩ : ∃ w0, w0 = (w.alloc (Obj.cells #[.int .i64 o, .int .u64 (hi : Int), .int .u64 (lo : Int)] 27)).alloc (Obj.cells #[.pointer (some ⟨H.A.g, 0, none⟩), .pointer (some ⟨H.qg, 0, none⟩), .pointer (some ⟨H.z.s, 0, none⟩)] 123) := ⟨_, rfl⟩
  have hB0 : Below w.heap.size w w0 := by rw [hw0]; exact below2 _ _ _
  have htp : Tp w0 (w.heap.size + 1) H.A.g H.qg H.z.s := by rw [hw0]; exact ⟨by simp [go_sem], by simp [go_sem], by simp [go_sem]⟩
  have x0 : w0.cell? ⟨w.heap.size, 0, none⟩ = some (.int .i64 o) := by rw [hw0]; simp [go_sem]
  have x1 : w0.cell? ⟨w.heap.size, 1, none⟩ = some (.int .u64 (hi : Int)) := by rw [hw0]; simp [go_sem]
  have x2 : w0.cell? ⟨w.heap.size, 2, none⟩ = some (.int .u64 (lo : Int)) := by rw [hw0]; simp [go_sem]
  obtain ⟨y0, y1, y2⟩ := id htp
  have HT := hid htp
  have HB0 := hid hB0
  have HD0 := hid (h.later hB0)
  have HH := hid (holder_any (h.later hB0) (o, hi, lo) 16 hw)
  have HD := hid h
  unfold tkr at HH
  have hans : revA true s (o, hi, lo) = if (holdR s (o, hi, lo) 16).2 = 0 then ⟨(G true s.l (topOf s.X s.l o)).map (fun k => (tk s.X k).1), 0, felled s (topOf s.X s.l o) o⟩ else ⟨[], (holdR s (o, hi, lo) 16).2, s⟩ := by
    unfold revA holdR needB whom
    by_cases h1 : hasC s.X s.l (o, hi, lo) = false
    · simp [h1]
    · by_cases h2 : partB 16 (rg s.X (findN s.X s.l (o, hi, lo))) = false
      · simp [h1, h2]
      · simp [h1, h2]
  rw [hans]
  by_cases hz : (holdR s (o, hi, lo) 16).2 = 0
  · rw [if_pos hz]
    have hh : hasC s.X s.l (o, hi, lo) = true ∧ (holdR s (o, hi, lo) 16).1 = findN s.X s.l (o, hi, lo) := by
      unfold holdR at hz ⊢
      by_cases h1 : hasC s.X s.l (o, hi, lo) = false
      · rw [if_pos h1] at hz; exact absurd hz (by decide)
      · rw [if_neg h1] at hz ⊢
        refine ⟨by simpa using h1, ?_⟩
        by_cases h2 : partB 16 (rg s.X (findN s.X s.l (o, hi, lo))) = false
        · rw [if_pos h2] at hz; exact absurd hz (by decide)
        · rw [if_neg h2]
    rw [hz, hh.2] at HH
    obtain ⟨f1, f2⟩ := findN_of h.inv hh.1
    have fo : ob s.X (findN s.X s.l (o, hi, lo)) = o := by unfold ob; rw [f2]
    obtain ⟨g1, g2, g3⟩ := whom_in h.inv hh.1 true
    have e1 : whom true s (o, hi, lo) = topOf s.X s.l o := rfl
    rw [e1] at g1 g2
    have g2' : ob s.X (topOf s.X s.l o) = o := g2
    have HRt := hid (fun (U : World) (hU : Below w.heap.size w U) => root_any (h.later hU) (findN s.X s.l (o, hi, lo)) f1)
    rw [fo] at HRt
    have HFl := hid (fun (U : World) (hU : Below w.heap.size w U) => fell_any (h.later hU) (topOf s.X s.l o) g1 (by rw [g2']; exact hc1))
    rw [g2'] at HFl
    obtain ⟨m0, hm0⟩ : ∃ m, m = findN s.X s.l (o, hi, lo) := ⟨_, rfl⟩
    rw [← hm0] at HH HRt
    obtain ⟨m, hm⟩ : ∃ m, m = topOf s.X s.l o := ⟨_, rfl⟩
    rw [← hm] at HRt HFl
    rw [← hm]
    unfold tkr at HRt
    unfold tkr at HFl
    obtain ⟨KL, hKL⟩ : ∃ KL, KL = (G true s.l m).map (fun k => (tk s.X k).1) := ⟨_, rfl⟩
    have hlen : (G true s.l m).length = KL.length := by rw [hKL, List.length_map]
    rw [← hKL]
    rw [← hKL, hlen] at HFl
    obtain ⟨kn, hkn⟩ : ∃ kn, kn = KL.length := ⟨_, rfl⟩
    rw [← hkn] at HFl
    unfold Took
    simp only
    rw [← hkn]
    obtain ⟨S', hS'⟩ : ∃ S', S' = felled s m o := ⟨_, rfl⟩
    rw [← hS'] at HFl
    rw [← hS']
    have HRg := hid h.rng
    clear h hB0 htp hans hz hh f1 f2 fo hm hm0 hKL hlen hkn hS' g1 g2 g3 g2' e1
    go_enter Tryz.func12, Tryz.ntmps12
    go_upto_region 2 with fail
    rw [← hw0]
    clear hw0
    go_upto_region 5 with (first
      | (go_at_call 51; refine HH.out.mono ?_; rintro e w2 ⟨rfl, hb2⟩; have HB2 := hid (below_call HB0.out hb2); have z0 := (HT.out.later hb2).c0; have z1 := (HT.out.later hb2).c1; have z2 := (HT.out.later hb2).c2; clear hb2))
    have HT2 := hid (Tp.mk z0 z1 z2)
    clear z0 z1 z2 HT
    go_region_held3 (fun U => U.cell? ⟨w.heap.size + 1, 0, none⟩ = some (.pointer (some ⟨H.A.g, 0, none⟩)) ∧ U.cell? ⟨w.heap.size + 1, 1, none⟩ = some (.pointer (some ⟨H.qg, 0, none⟩)) ∧ U.cell? ⟨w.heap.size + 1, 2, none⟩ = some (.pointer (some ⟨H.z.s, 0, none⟩))) (first | exact HT4.out | exact HT3.out | exact ⟨HT2.out.later (Below.refl _ _).drew |>.c0, HT2.out.later (Below.refl _ _).drew |>.c1, HT2.out.later (Below.refl _ _).drew |>.c2⟩ | exact ⟨HT2.out.c0, HT2.out.c1, HT2.out.c2⟩) (first
      | (go_at_call 52; refine (HFl.out w3 HB3.out).mono ?_; rintro e w4 ⟨a, c, rfl, hO4, hd4, hb4⟩; have HT4 := hid (And.intro (cell_but hb4 HT3.out.1 (fun (e : N (w.heap.size + 1)) => by have := HRg.out _ e; omega)) (And.intro (cell_but hb4 HT3.out.2.1 (fun (e : N (w.heap.size + 1)) => by have := HRg.out _ e; omega)) (cell_but hb4 HT3.out.2.2 (fun (e : N (w.heap.size + 1)) => by have := HRg.out _ e; omega)))); have HR := hid (And.intro (hO4.mono HB3.out.size) (And.intro hd4 ((But.of (S := N) HB3.out).trans hb4))); clear hO4 hd4 hb4)
      | (go_at_call 53; refine (HRt.out _ (below_call HB2.out (Below.refl _ _).drew)).mono ?_; rintro e w3 ⟨rfl, hb3⟩; have HB3 := hid (below_call (below_call HB2.out (Below.refl _ _).drew) hb3); have HT3 := hid (And.intro ((HT2.out.later (Below.refl _ _).drew).later hb3).c0 (And.intro ((HT2.out.later (Below.refl _ _).drew).later hb3).c1 ((HT2.out.later (Below.refl _ _).drew).later hb3).c2)); clear hb3))
    go_wp2
    exact bodyPost_ret (v := .tuple #[.slice a kn c, .int .i64 0]) (by simp [results, Tryz.results12, go_sem]) rfl ⟨a, c, rfl, HR.out⟩
  · rw [if_neg hz]
    obtain ⟨E, hE⟩ : ∃ E, E = (holdR s (o, hi, lo) 16).2 := ⟨_, rfl⟩
    obtain ⟨m, hm⟩ : ∃ m, m = (holdR s (o, hi, lo) 16).1 := ⟨_, rfl⟩
    rw [← hE, ← hm] at HH
    rw [← hE]
    rw [← hE] at hz
    have hz2 : (E != 0) = true := by simp [hz]
    unfold Took
    clear h hB0 htp hans hE hm
    go_enter Tryz.func12, Tryz.ntmps12
    go_upto_region 2 with fail
    rw [← hw0]
    clear hw0
    go_wp2_with (first
      | (go_at_call 51; refine HH.out.mono ?_; rintro e w2 ⟨rfl, hb2⟩; have HB2 := hid (below_call HB0.out hb2); clear hb2))
    exact bodyPost_ret (v := .tuple #[.slice none 0 0, .int .i64 E]) (by simp [results, Tryz.results12, go_sem]) rfl ⟨none, 0, rfl, Ow.nil _ _ _ _, HD.out.later HB2.out, But.of HB2.out⟩
end Go.Proofs.YtnjadfgfpebkdaaGreat.D
namespace Go.Proofs.YtnjadfgfpebkdaaGreat.D
open Go.RowKit
open Go.Proofs.YtnjadfgfpebkdaaGreat.H (B64 Cp)
set_option linter.unusedVariables false

/-! ### The document's Token -/
def wld (H : Hd) : Value := .agg #[.pointer (some ⟨H.r, 0, none⟩), .pointer (some ⟨H.q, 0, none⟩), .pointer (some ⟨H.v, 0, none⟩)]
/-- What the document's Token or Object answers and leaves. -/
def RTook (w : World) (H : Hd) (s : Sta) (A : Ans) (T : Nat) (N : Nat → Prop) (e : Ending) (w' : World) : Prop :=
  ∃ a c, e = .returned (.tuple #[.slice a A.K.length c, .int .i64 A.code]) ∧ Ow w' w.heap.size 27 3 a A.K.length c (caps A.K) ∧ ∃ N', Duo w' H s A.s T N' ∧ Went w N w' N' ∧ ∀ k, Blk a k → ¬ N' k
theorem and8 {q : Int} (h : validB q = true) : (bits .and .i64 q 8 == 0) = !partB 8 q := by
  have h1 := validB_iff.1 h
  have key : ∀ k : Fin 32, (bits .and .i64 ((k.val : Nat) : Int) 8 == 0) = !partB 8 ((k.val : Nat) : Int) := by decide
  have := key ⟨q.toNat, by omega⟩
  have e : ((q.toNat : Nat) : Int) = q := by omega
  simp only [e] at this
  exact this
theorem and16 {q : Int} (h : validB q = true) : (bits .and .i64 q 16 == 0) = !partB 16 q := by
  have h1 := validB_iff.1 h
  have key : ∀ k : Fin 32, (bits .and .i64 ((k.val : Nat) : Int) 16 == 0) = !partB 16 ((k.val : Nat) : Int) := by decide
  have := key ⟨q.toNat, by omega⟩
  have e : ((q.toNat : Nat) : Int) = q := by omega
  simp only [e] at this
  exact this
set_option maxRecDepth 100000 in
set_option maxHeartbeats 2000000 in
theorem rtoken_any {w : World} {H : Hd} {s d : Sta} {T : Nat} {N : Nat → Prop} (h : Duo w H s d T N) (hv : Inv H.mo d.X d.l) (c : Cp) (hw : c.2.1 < B64 ∧ c.2.2 < B64) :
    Calls Tryz.prog 22 #[wld H, cpV c] w (RTook w H s (revA false d c) T N) := by
  obtain ⟨o, hi, lo⟩ := c
  obtain ⟨w0, hw0⟩ : ∃ w0, w0 = (w.alloc (Obj.cells #[.pointer (some ⟨H.r, 0, none⟩), .pointer (some ⟨H.q, 0, none⟩), .pointer (some ⟨H.v, 0, none⟩)] 63)).alloc (Obj.cells #[.int .i64 o, .int .u64 (hi : Int), .int .u64 (lo : Int)] 27) := ⟨_, rfl⟩
  have hB0 : Below w.heap.size w w0 := by rw [hw0]; exact below2 _ _ _
  have htp : Tp w0 w.heap.size H.r H.q H.v := by rw [hw0]; exact ⟨by simp [go_sem], by simp [go_sem], by simp [go_sem]⟩
  have x0 : w0.cell? ⟨w.heap.size + 1, 0, none⟩ = some (.int .i64 o) := by rw [hw0]; simp [go_sem]
  have x1 : w0.cell? ⟨w.heap.size + 1, 1, none⟩ = some (.int .u64 (hi : Int)) := by rw [hw0]; simp [go_sem]
  have x2 : w0.cell? ⟨w.heap.size + 1, 2, none⟩ = some (.int .u64 (lo : Int)) := by rw [hw0]; simp [go_sem]
  have y0 := htp.c0
  have HT := hid htp
  have HX0 := hid x0
  have HB0 := hid hB0
  have HD := hid h
  have HI := hid hv
  obtain ⟨wh0, ev0, hr0, ht0⟩ := (h.later hB0).rc
  have HF := hid (rfind_any hr0 hv o hi lo)
  unfold wld revA needB whom
  simp only [Bool.false_eq_true, if_false]
  by_cases hc : hasC d.X d.l (o, hi, lo) = false
  · rw [hc] at HF
    simp only [if_pos hc]
    obtain ⟨m, hm⟩ : ∃ m, m = findN d.X d.l (o, hi, lo) := ⟨_, rfl⟩
    rw [← hm] at HF
    unfold RTook
    clear h hB0 htp hc hm hr0 ht0 hv
    go_enter Tryz.func22, Tryz.ntmps22
    go_upto_region 1 with fail
    rw [← hw0]
    clear hw0
    go_wp2_with (first
      | (go_at_call 43; refine HF.out.mono ?_; rintro e w2 ⟨rfl, hb2⟩; have HB2 := hid (below_call HB0.out hb2); clear hb2))
    exact bodyPost_ret (v := .tuple #[.slice none 0 0, .int .i64 3]) (by simp [results, Tryz.results22, go_sem]) rfl ⟨none, 0, rfl, Ow.nil _ _ _ _, N, HD.out.later HB2.out, Went.later HB2.out, fun k hk => by obtain ⟨x, hx, _⟩ := hk; cases hx⟩
  · have hc' : hasC d.X d.l (o, hi, lo) = true := by simpa using hc
    rw [hc'] at HF
    simp only [if_neg hc]
    obtain ⟨hfn, hft⟩ := findN_of hv hc'
    have fo : ob d.X (findN d.X d.l (o, hi, lo)) = o := by unfold ob; rw [hft]
    have HA : Hid (∀ (U : World), Below w.heap.size w U → Calls Tryz.prog 65 #[.pointer (some ⟨H.r, 0, none⟩), .int .i64 (findN d.X d.l (o, hi, lo))] U fun e w' => e = .returned (tokV d.X d.l (findN d.X d.l (o, hi, lo))) ∧ Below U.heap.size U w') := fun U hU => by
      obtain ⟨wh1, ev1, hr1, ht1⟩ := (HD.out.later hU).rc
      exact rat_any hr1 HI.out.ok.range _
    unfold tokV at HA
    rw [if_pos hfn, hft] at HA
    have HV := hid (hv.val _ hfn)
    have hup := hid (hv.ok.up (mem_nums.1 hfn).choose_spec)
    have hpr : par d.l (findN d.X d.l (o, hi, lo)) = -1 ∨ 0 ≤ par d.l (findN d.X d.l (o, hi, lo)) := by
      obtain ⟨p, hp⟩ := mem_nums.1 hfn
      rw [par_eq hv.ok hp]
      rcases hv.ok.up hp with h1 | h1
      · exact .inl h1
      · exact .inr (nums_nn hv.ok h1)
    obtain ⟨m, hm⟩ : ∃ m, m = findN d.X d.l (o, hi, lo) := ⟨_, rfl⟩
    rw [← hm] at HF HA HV hpr hfn
    rw [← hm]
    obtain ⟨q, hq⟩ : ∃ q, q = rg d.X m := ⟨_, rfl⟩
    rw [← hq] at HA HV
    rw [← hq]
    obtain ⟨p, hp⟩ : ∃ p, p = par d.l m := ⟨_, rfl⟩
    rw [← hp] at HA hpr
    have HFN := hid hfn
    have HPP := hid hp
    have hand := and8 HV.out
    unfold tokA at HA
    clear hc hc' hm hq hft hfn hp fo hup hv hr0 ht0
    cases hp4 : partB 8 q with
    | false =>
      rw [hp4] at hand
      simp only [Bool.not_false] at hand
      rw [if_pos rfl]
      unfold RTook
      clear hp4 h hB0 htp hpr
      go_enter Tryz.func22, Tryz.ntmps22
      go_upto_region 1 with fail
      rw [← hw0]
      clear hw0
      go_upto_region 4 with (first
        | (go_at_call 43; refine HF.out.mono ?_; rintro e w2 ⟨rfl, hb2⟩; have HB2 := hid (below_call HB0.out hb2); have z1 := (HT.out.later hb2).c0; clear hb2))
      go_wp2_with (first
        | (go_at_call 65; refine (HA.out w2 HB2.out).mono ?_; rintro e w3 ⟨rfl, hb3⟩; have HB3 := hid (below_call HB2.out hb3); clear hb3))
      exact bodyPost_ret (v := .tuple #[.slice none 0 0, .int .i64 4]) (by simp [results, Tryz.results22, go_sem]) rfl ⟨none, 0, rfl, Ow.nil _ _ _ _, N, HD.out.later (HB3.out.alloc HB3.out.size _), Went.later (HB3.out.alloc HB3.out.size _), fun k hk => by obtain ⟨x, hx, _⟩ := hk; cases hx⟩
    | true =>
      rw [hp4] at hand
      simp only [Bool.not_true] at hand
      rw [if_neg (by decide)]
      clear hp4 hB0 htp
      unfold RTook felled
      simp only [List.length_map]
      obtain ⟨KL, hKL⟩ : ∃ KL, KL = (G true d.l m).map (fun k => (tk d.X k).1) := ⟨_, rfl⟩
      obtain ⟨kn, hkn⟩ : ∃ kn, kn = (G true d.l m).length := ⟨_, rfl⟩
      have HKL := hid hKL
      have HKN := hid hkn
      rw [← hKL, ← hkn, ← HPP.out]
      clear h hKL hkn
      go_enter Tryz.func22, Tryz.ntmps22
      go_upto_region 1 with fail
      rw [← hw0]
      clear hw0
      go_upto_region 4 with (first
        | (go_at_call 43; refine HF.out.mono ?_; rintro e w2 ⟨rfl, hb2⟩; have HB2 := hid (below_call HB0.out hb2); have HTb := hid hb2; have z1 := (HT.out.later hb2).c0; clear hb2))
      go_upto_region 7 with (first
        | (go_at_call 65; refine (HA.out w2 HB2.out).mono ?_; rintro e w3 ⟨rfl, hb3⟩; have HB3 := hid (below_call HB2.out hb3); have HTc := hid (below_call HTb.out hb3); clear hb3 z1 y0 x0 x1 x2))
      obtain ⟨w4, hw4⟩ : ∃ w4, w4 = w3.alloc (Obj.cells #[.int .i64 o, .int .u64 (hi : Int), .int .u64 (lo : Int), .int .i64 q, .int .i64 p] 47) := ⟨_, rfl⟩
      have hb4 : Below w3.heap.size w3 w4 := by rw [hw4]; exact below1 _ _
      have t4 : w4.cell? ⟨w3.heap.size, 4, none⟩ = some (.int .i64 p) := by rw [hw4]; simp [go_sem]
      rw [← hw4]
      have HTd := hid (below_call HTc.out hb4)
      have HB4 := hid (below_call HB3.out hb4)
      have HRg := hid HD.out.rng
      have s3 := HB3.out.size
      have s0 : w.heap.size + 1 < w0.heap.size := World.block_lt_of_cell? _ _ HX0.out
      have sc := HTc.out.size
      have HFm : Hid (∀ U N1, Went w4 N U N1 → Tp U w.heap.size H.r H.q H.v ∧ U.cell? ⟨w.heap.size + 1, 0, none⟩ = some (.int .i64 o) ∧ U.cell? ⟨w3.heap.size, 4, none⟩ = some (.int .i64 p)) := fun U N1 hU =>
        ⟨(HT.out.later HTd.out).but hU.2 (fun e => by have := HRg.out _ e; omega), hU.cell (cell_later HTd.out HX0.out) (fun (e : N (w.heap.size + 1)) => by have := HRg.out _ e; omega), hU.cell t4 (fun (e : N w3.heap.size) => by have := HRg.out _ e; omega)⟩
      have HS4 := hid HB4.out.size
      have HD4 := hid (HD.out.later HB4.out)
      have HDr := hid (rDrop HD4.out HI.out.ok m HFN.out)
      rw [← HKL.out, ← HKN.out] at HDr
      have z0 := (HFm.out w4 N (Went.refl _ _)).1.c0
      clear hw4 hb4 t4 s3 s0 sc HA HF HT HX0
      go_upto_region 8 with (first
        | (go_at_call 66; refine HDr.out.mono ?_; rintro e w5 ⟨a, c, rfl, hO5, hd5, hb5⟩; have HW5 := hid (Went.stay hb5); have HD5 := hid hd5; have HO5 := hid hO5; obtain ⟨⟨g0, g1, g2⟩, g3, g4⟩ := HFm.out w5 N HW5.out; clear hd5 hb5 hO5 z0))
      have HSb := hid (rSub HD5.out o (kn : Int))
      go_upto_region 9 with (first
        | (go_at_call 67; refine HSb.out.mono ?_; rintro e w6 ⟨rfl, N6, hd6, hw6⟩; have HD6 := hid hd6; have HW6 := hid (HW5.out.trans hw6); have HW56 := hid hw6; obtain ⟨⟨k0, k1, k2⟩, k3, k4⟩ := HFm.out w6 N6 HW6.out; clear hd6 hw6 g0 g1 g2 g3 g4))
      have HBlk : Hid (∀ k, Blk a k → w4.heap.size ≤ k ∧ k < w5.heap.size ∧ ¬ N k) := fun k hk => by
        have h1 := HO5.out.blk k hk
        refine ⟨h1.1, h1.2, fun e => ?_⟩
        have h2 := HRg.out k e
        have h3 := HS4.out
        omega
      rcases hpr with hp1 | hp1
      · have hlt : p < 0 := by omega
        have hDe := hid (rDestroy HD6.out o)
        subst hp1
        go_wp2_with (first
          | (go_at_call 68; refine hDe.out.mono ?_; rintro e w7 ⟨x9, rfl, N7, hd7, hw7⟩; have HD7 := hid hd7; have HW7 := hid (HW6.out.trans hw7); have HW57 := hid (HW56.out.trans hw7); clear hd7 hw7))
        refine bodyPost_ret (v := .tuple #[.slice a kn c, .int .i64 0]) (by simp [results, Tryz.results22, go_sem]) rfl ⟨a, c, rfl, ?_, N7, HD7.out, (Went.later HB4.out).trans HW7.out, fun k hk => ?_⟩
        · exact (HO5.out.but HW57.out.2 (fun k hk => (HBlk.out k hk).2.2)).mono HS4.out
        · exact HW57.out.out (HBlk.out k hk).2.1 (HBlk.out k hk).2.2
      · have hlt : ¬ p < 0 := by omega
        go_wp2
        refine bodyPost_ret (v := .tuple #[.slice a kn c, .int .i64 0]) (by simp [results, Tryz.results22, go_sem]) rfl ⟨a, c, rfl, ?_, N6, HD6.out, (Went.later HB4.out).trans HW6.out, fun k hk => ?_⟩
        · exact (HO5.out.but HW56.out.2 (fun k hk => (HBlk.out k hk).2.2)).mono HS4.out
        · exact HW56.out.out (HBlk.out k hk).2.1 (HBlk.out k hk).2.2
end Go.Proofs.YtnjadfgfpebkdaaGreat.D
namespace Go.Proofs.YtnjadfgfpebkdaaGreat.D
open Go.RowKit
open Go.Proofs.YtnjadfgfpebkdaaGreat.H (B64 Cp)
set_option linter.unusedVariables false

def UpR2 (w : World) (X : List Tk) (l : Fo) (o : Int) (g1 g2 g3 xb : Nat) (t : Value) (w' : World) : Prop :=
  ∃ x p : Int, t = .int .i64 x ∧ (x, p) ∈ l ∧ ob X x = o ∧ Tp w' w.heap.size g1 g2 g3 ∧ w'.cell? ⟨w.heap.size + 1, 0, none⟩ = some (.int .i64 o) ∧ (∃ c r, Cet w' xb 0 (c, r, p)) ∧ (∀ j, w'.frozen? ⟨xb, j, none⟩ = false) ∧ Below w.heap.size w w' ∧ xb < w'.heap.size
set_option maxRecDepth 100000 in
set_option maxHeartbeats 2000000 in
theorem robject_any {w : World} {H : Hd} {s d : Sta} {T : Nat} {N : Nat → Prop} (h : Duo w H s d T N) (hv : Inv H.mo d.X d.l) (c : Cp) (hw : c.2.1 < B64 ∧ c.2.2 < B64) :
    Calls Tryz.prog 23 #[wld H, cpV c] w (RTook w H s (revA true d c) T N) := by
  obtain ⟨o, hi, lo⟩ := c
  obtain ⟨w0, hw0⟩ : ∃ w0, w0 = (w.alloc (Obj.cells #[.pointer (some ⟨H.r, 0, none⟩), .pointer (some ⟨H.q, 0, none⟩), .pointer (some ⟨H.v, 0, none⟩)] 63)).alloc (Obj.cells #[.int .i64 o, .int .u64 (hi : Int), .int .u64 (lo : Int)] 27) := ⟨_, rfl⟩
  have hB0 : Below w.heap.size w w0 := by rw [hw0]; exact below2 _ _ _
  have htp : Tp w0 w.heap.size H.r H.q H.v := by rw [hw0]; exact ⟨by simp [go_sem], by simp [go_sem], by simp [go_sem]⟩
  have x0 : w0.cell? ⟨w.heap.size + 1, 0, none⟩ = some (.int .i64 o) := by rw [hw0]; simp [go_sem]
  have x1 : w0.cell? ⟨w.heap.size + 1, 1, none⟩ = some (.int .u64 (hi : Int)) := by rw [hw0]; simp [go_sem]
  have x2 : w0.cell? ⟨w.heap.size + 1, 2, none⟩ = some (.int .u64 (lo : Int)) := by rw [hw0]; simp [go_sem]
  have y0 := htp.c0
  have HT := hid htp
  have HX0 := hid x0
  have HB0 := hid hB0
  have HD := hid h
  have HI := hid hv
  obtain ⟨wh0, ev0, hr0, ht0⟩ := (h.later hB0).rc
  have HF := hid (rfind_any hr0 hv o hi lo)
  unfold wld revA needB whom
  simp only [if_true]
  by_cases hc : hasC d.X d.l (o, hi, lo) = false
  · rw [hc] at HF
    simp only [if_pos hc]
    obtain ⟨m, hm⟩ : ∃ m, m = findN d.X d.l (o, hi, lo) := ⟨_, rfl⟩
    rw [← hm] at HF
    unfold RTook
    clear h hB0 htp hc hm hr0 ht0 hv
    go_enter Tryz.func23, Tryz.ntmps23
    go_upto_region 1 with fail
    rw [← hw0]
    clear hw0
    go_wp2_with (first
      | (go_at_call 43; refine HF.out.mono ?_; rintro e w2 ⟨rfl, hb2⟩; have HB2 := hid (below_call HB0.out hb2); clear hb2))
    exact bodyPost_ret (v := .tuple #[.slice none 0 0, .int .i64 3]) (by simp [results, Tryz.results23, go_sem]) rfl ⟨none, 0, rfl, Ow.nil _ _ _ _, N, HD.out.later HB2.out, Went.later HB2.out, fun k hk => by obtain ⟨x, hx, _⟩ := hk; cases hx⟩
  · have hc' : hasC d.X d.l (o, hi, lo) = true := by simpa using hc
    rw [hc'] at HF
    simp only [if_neg hc]
    obtain ⟨hfn, hft⟩ := findN_of hv hc'
    have fo : ob d.X (findN d.X d.l (o, hi, lo)) = o := by unfold ob; rw [hft]
    have HA : Hid (∀ (U : World), Below w.heap.size w U → Calls Tryz.prog 65 #[.pointer (some ⟨H.r, 0, none⟩), .int .i64 (findN d.X d.l (o, hi, lo))] U fun e w' => e = .returned (tokV d.X d.l (findN d.X d.l (o, hi, lo))) ∧ Below U.heap.size U w') := fun U hU => by
      obtain ⟨wh1, ev1, hr1, ht1⟩ := (HD.out.later hU).rc
      exact rat_any hr1 HI.out.ok.range _
    unfold tokV at HA
    rw [if_pos hfn, hft] at HA
    have HV := hid (hv.val _ hfn)
    have hup := hid (hv.ok.up (mem_nums.1 hfn).choose_spec)
    have hpr : par d.l (findN d.X d.l (o, hi, lo)) = -1 ∨ 0 ≤ par d.l (findN d.X d.l (o, hi, lo)) := by
      obtain ⟨p, hp⟩ := mem_nums.1 hfn
      rw [par_eq hv.ok hp]
      rcases hv.ok.up hp with h1 | h1
      · exact .inl h1
      · exact .inr (nums_nn hv.ok h1)
    obtain ⟨m, hm⟩ : ∃ m, m = findN d.X d.l (o, hi, lo) := ⟨_, rfl⟩
    rw [← hm] at HF HA HV hpr hfn
    rw [← hm]
    obtain ⟨q, hq⟩ : ∃ q, q = rg d.X m := ⟨_, rfl⟩
    rw [← hq] at HA HV
    rw [← hq]
    obtain ⟨p, hp⟩ : ∃ p, p = par d.l m := ⟨_, rfl⟩
    rw [← hp] at HA hpr
    have HFN := hid hfn
    have HFO : Hid (ob d.X m = o) := by unfold Hid; rw [hm]; exact fo
    have HPP := hid hp
    have hand := and16 HV.out
    unfold tokA at HA
    clear hc hc' hm hq hft hfn hp fo hup hv hr0 ht0
    cases hp4 : partB 16 q with
    | false =>
      rw [hp4] at hand
      simp only [Bool.not_false] at hand
      rw [if_pos rfl]
      unfold RTook
      clear hp4 h hB0 htp hpr
      go_enter Tryz.func23, Tryz.ntmps23
      go_upto_region 1 with fail
      rw [← hw0]
      clear hw0
      go_upto_region 4 with (first
        | (go_at_call 43; refine HF.out.mono ?_; rintro e w2 ⟨rfl, hb2⟩; have HB2 := hid (below_call HB0.out hb2); have z1 := (HT.out.later hb2).c0; clear hb2))
      go_wp2_with (first
        | (go_at_call 65; refine (HA.out w2 HB2.out).mono ?_; rintro e w3 ⟨rfl, hb3⟩; have HB3 := hid (below_call HB2.out hb3); clear hb3))
      exact bodyPost_ret (v := .tuple #[.slice none 0 0, .int .i64 4]) (by simp [results, Tryz.results23, go_sem]) rfl ⟨none, 0, rfl, Ow.nil _ _ _ _, N, HD.out.later (HB3.out.alloc HB3.out.size _), Went.later (HB3.out.alloc HB3.out.size _), fun k hk => by obtain ⟨x, hx, _⟩ := hk; cases hx⟩
    | true =>
      rw [hp4] at hand
      simp only [Bool.not_true] at hand
      rw [if_neg (by decide)]
      clear hp4 hB0 htp
      obtain ⟨r1, r2, r3⟩ := HI.out.toRoot m HFN.out
      have e1 : topOf d.X d.l o = r1 := by rw [← HFO.out, ← r3.1, topOf_eq HI.out r2]
      rw [e1]
      have HRt : Hid ((r1, -1) ∈ d.l) := r2
      have HTop : Hid (topOf d.X d.l o = r1) := e1
      have HRN : Hid (r1 ∈ nums d.l) := mem_nums.2 ⟨_, r2⟩
      have hpar1 : par d.l r1 = -1 := par_eq HI.out.ok r2
      unfold RTook felled
      simp only [List.length_map]
      rw [if_pos hpar1]
      obtain ⟨KL, hKL⟩ : ∃ KL, KL = (G true d.l r1).map (fun k => (tk d.X k).1) := ⟨_, rfl⟩
      obtain ⟨kn, hkn⟩ : ∃ kn, kn = (G true d.l r1).length := ⟨_, rfl⟩
      have HKL := hid hKL
      have HKN := hid hkn
      rw [← hKL, ← hkn]
      clear h hKL hkn r2 r3 e1 hpar1
      go_enter Tryz.func23, Tryz.ntmps23
      go_upto_region 1 with fail
      rw [← hw0]
      clear hw0
      go_upto_region 4 with (first
        | (go_at_call 43; refine HF.out.mono ?_; rintro e w2 ⟨rfl, hb2⟩; have HB2 := hid (below_call HB0.out hb2); have HTb := hid hb2; have z1 := (HT.out.later hb2).c0; clear hb2))
      go_upto_region 7 with (first
        | (go_at_call 65; refine (HA.out w2 HB2.out).mono ?_; rintro e w3 ⟨rfl, hb3⟩; have HB3 := hid (below_call HB2.out hb3); have HTc := hid (below_call HTb.out hb3); clear hb3 z1 y0 x0 x1 x2))
      obtain ⟨w4, hw4⟩ : ∃ w4, w4 = w3.alloc (Obj.cells #[.int .i64 o, .int .u64 (hi : Int), .int .u64 (lo : Int), .int .i64 q, .int .i64 p] 47) := ⟨_, rfl⟩
      have hb4 : Below w3.heap.size w3 w4 := by rw [hw4]; exact below1 _ _
      have hct : Cet w4 w3.heap.size 0 ((o, hi, lo), q, p) := by rw [hw4]; exact ⟨by simp [go_sem], by simp [go_sem], by simp [go_sem], by simp [go_sem], by simp [go_sem]⟩
      have hfr : ∀ j, w4.frozen? ⟨w3.heap.size, j, none⟩ = false := fun j => by rw [hw4]; simp [go_sem]
      have hlt : w3.heap.size < w4.heap.size := by rw [hw4]; simp [go_sem]
      rw [← hw4]
      have HTd := hid (below_call HTc.out hb4)
      have HB4 := hid (below_call HB3.out hb4)
      have HRg := hid HD.out.rng
      have s3 := HB3.out.size
      have s0 : w.heap.size + 1 < w0.heap.size := World.block_lt_of_cell? _ _ HX0.out
      have sc := HTc.out.size
      obtain ⟨xb, hxb⟩ : ∃ xb, xb = w3.heap.size := ⟨_, rfl⟩
      rw [← hxb] at hct hfr hlt
      rw [← hxb]
      have HS2 : Hid (w.heap.size + 2 ≤ xb) := by unfold Hid; omega
      have HCT := hid hct
      have HFR := hid hfr
      have HLT := hid hlt
      have HT4 := hid (HT.out.later HTd.out)
      have HX4 := hid (cell_later HTd.out HX0.out)
      have HP : Hid ((m, p) ∈ d.l) := by
        unfold Hid
        obtain ⟨p', hp'⟩ := mem_nums.1 HFN.out
        rw [HPP.out, par_eq HI.out.ok hp']
        exact hp'
      have HA2 : Hid (∀ (U : World) (x p1 : Int), Below w.heap.size w U → (x, p1) ∈ d.l → Calls Tryz.prog 65 #[.pointer (some ⟨H.r, 0, none⟩), .int .i64 x] U fun e w' => e = .returned (.tuple #[tokA (tk d.X x).1 (rg d.X x) p1, .bool true]) ∧ Below U.heap.size U w') := fun U x p1 hU hx => by
        obtain ⟨wh1, ev1, hr1, ht1⟩ := (HD.out.later hU).rc
        have := rat_any hr1 HI.out.ok.range x
        unfold tokV at this
        rw [if_pos (mem_nums.2 ⟨_, hx⟩), par_eq HI.out.ok hx] at this
        exact this
      clear hw4 hb4 hct hfr hlt s3 s0 sc hxb HA HF HT HX0 hand HB2 HTb HTc HTd hpr
      go_loopw [6] (UpR2 w d.X d.l o H.r H.q H.v xb) (fun t _ => upM d.l t)
      case atStart => exact ⟨m, p, rfl, HP.out, HFO.out, HT4.out, HX4.out, ⟨_, _, HCT.out⟩, HFR.out, HB4.out, HLT.out⟩
      case round =>
        obtain ⟨x, p1, rfl, hp1, ho1, htp, hx0, ⟨c1, r9, hct⟩, hfr, hB, hlt⟩ := hrel
        have t4 := hct.c4
        simp only [Nat.zero_add] at t4
        have z0 := htp.c0
        have HP1 := hid hp1
        have HO1 := hid ho1
        have HB := hid hB
        have HLT1 := hid hlt
        have HFR1 := hid hfr
        have HCT1 := hid hct
        have HTp := hid htp
        have HX := hid hx0
        by_cases hroot : p1 = -1
        · subst hroot
          have hge : ¬ (0 : Int) ≤ -1 := by decide
          have hxr : x = r1 := by rw [← HTop.out, ← ho1, topOf_eq HI.out hp1]
          have HDr := hid (rDrop (HD.out.later hB) HI.out.ok x (mem_nums.2 ⟨_, hp1⟩))
          rw [hxr] at HDr
          rw [← HKL.out, ← HKN.out] at HDr
          subst hxr
          have HFm : Hid (∀ U N1, Went wr N U N1 → Tp U w.heap.size H.r H.q H.v ∧ U.cell? ⟨w.heap.size + 1, 0, none⟩ = some (.int .i64 o)) := fun U N1 hU =>
            ⟨HTp.out.but hU.2 (fun e => by have := HRg.out _ e; omega), hU.cell HX.out (fun (e : N (w.heap.size + 1)) => by have := HRg.out _ e; omega)⟩
          have HSr := hid hB.size
          clear hct hfr hB hlt hp1 ho1 htp hx0
          go_upto_region 11 with (first
            | (go_at_call 66; refine HDr.out.mono ?_; rintro e w5 ⟨a, c, rfl, hO5, hd5, hb5⟩; have HW5 := hid (Went.stay hb5); have HD5 := hid hd5; have HO5 := hid hO5; obtain ⟨⟨g0, g1, g2⟩, g3⟩ := HFm.out w5 N HW5.out; clear hd5 hb5 hO5 z0 t4))
          have HSb := hid (rSub HD5.out o (kn : Int))
          go_upto_region 12 with (first
            | (go_at_call 67; refine HSb.out.mono ?_; rintro e w6 ⟨rfl, N6, hd6, hw6⟩; have HD6 := hid hd6; have HW6 := hid (HW5.out.trans hw6); have HW56 := hid hw6; obtain ⟨⟨k0, k1, k2⟩, k3⟩ := HFm.out w6 N6 HW6.out; clear hd6 hw6 g0 g1 g2 g3))
          have HBlk : Hid (∀ k, Blk a k → wr.heap.size ≤ k ∧ k < w5.heap.size ∧ ¬ N k) := fun k hk => by
            have h1 := HO5.out.blk k hk
            refine ⟨h1.1, h1.2, fun e => ?_⟩
            have h2 := HRg.out k e
            have h3 := HSr.out
            omega
          have hDe := hid (rDestroy HD6.out o)
          go_wp2_with (first
            | (go_at_call 68; refine hDe.out.mono ?_; rintro e w7 ⟨x9, rfl, N7, hd7, hw7⟩; have HD7 := hid hd7; have HW7 := hid (HW6.out.trans hw7); have HW57 := hid (HW56.out.trans hw7); clear hd7 hw7))
          refine bodyPost_ret (v := .tuple #[.slice a kn c, .int .i64 0]) (by simp [results, Tryz.results23, go_sem]) rfl ⟨a, c, rfl, ?_, N7, HD7.out, (Went.later HB.out).trans HW7.out, fun k hk => ?_⟩
          · exact (HO5.out.but HW57.out.2 (fun k hk => (HBlk.out k hk).2.2)).mono HSr.out
          · exact HW57.out.out (HBlk.out k hk).2.1 (HBlk.out k hk).2.2
        · have hpn : p1 ∈ nums d.l := (HI.out.ok.up hp1).resolve_left hroot
          have hge : (0 : Int) ≤ p1 := nums_nn HI.out.ok hpn
          obtain ⟨p2, hp2⟩ := mem_nums.1 hpn
          have HP2 := hid hp2
          have HO2 : Hid (ob d.X p1 = o) := by
            unfold Hid
            rw [← ho1]; exact ((HI.out.up x p1 hp1 hroot).1).symm
          have HA3 := hid (HA2.out wr p1 p2 hB hp2)
          have HM : Hid ((U d.l p1).length < (U d.l x).length) := by
            unfold Hid
            rw [U_eq HI.out.ok hp1, List.length_cons]; omega
          obtain ⟨⟨cy, hy_, ly⟩, hcy⟩ : ∃ c : Cp, c = (tk d.X p1).1 := ⟨_, rfl⟩
          obtain ⟨ry, hry⟩ : ∃ r, r = rg d.X p1 := ⟨_, rfl⟩
          rw [← hcy, ← hry] at HA3
          unfold tokA at HA3
          clear hct hfr hB hlt hp1 ho1 hroot hpn hp2 hcy hry htp hx0
          go_upto_region 9 with fail
          go_wp2_with (first
            | (go_at_call 65; refine HA3.out.mono ?_; rintro e w5 ⟨rfl, hb5⟩; have HB5 := hid (below_call HB.out hb5); have hlt5 := hid hb5; have hf0 := hid (fun j => (hb5.frozen HLT1.out (p := ⟨xb, j, none⟩)).trans (HFR1.out j)); have d0 := (HCT1.out.later hb5).c0; have d1 := (HCT1.out.later hb5).c1; have d2 := (HCT1.out.later hb5).c2; have d3 := (HCT1.out.later hb5).c3; have d4 := (HCT1.out.later hb5).c4; simp only [Nat.zero_add] at d0 d1 d2 d3 d4; clear hb5; have q0 := hf0.out 0; have q1 := hf0.out 1; have q2 := hf0.out 2; have q3 := hf0.out 3; have q4 := hf0.out 4))
          have hbut : But (· = xb) w5 (set5o w5 xb 0 ((cy, hy_, ly), ry, p2)) := by
            unfold set5o
            exact ((((((But.refl (· = xb) w5).setCell (p := ⟨xb, 0, none⟩) rfl _).setCell (p := ⟨xb, 0 + 1, none⟩) rfl _).setCell (p := ⟨xb, 0 + 2, none⟩) rfl _).setCell (p := ⟨xb, 0 + 3, none⟩) rfl _).setCell (p := ⟨xb, 0 + 4, none⟩) rfl _)
          have hS2 := HS2.out
          refine ⟨⟨p1, p2, rfl, HP2.out, HO2.out, (HTp.out.later hlt5.out).but hbut (by omega), cell_but hbut (cell_later hlt5.out HX.out) (by show ¬ (w.heap.size + 1 = xb); omega), ⟨_, _, (HCT1.out.later hlt5.out).set ((cy, hy_, ly), ry, p2)⟩, fun j => ?_, But.below HB5.out hbut (fun k hk => by omega), ?_⟩, HM.out⟩
          · simp only [World.frozen?_setCell]; exact hf0.out j
          · have h1 := HLT1.out
            have h2 := hlt5.out.size
            have h3 := hbut.size
            exact Nat.lt_of_lt_of_le h1 (Nat.le_trans h2 h3)
end Go.Proofs.YtnjadfgfpebkdaaGreat.D
