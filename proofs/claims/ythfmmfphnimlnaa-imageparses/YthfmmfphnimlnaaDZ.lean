import Derived.Test.YthfmmfphnimlnaaDX
import Derived.Test.YthfmmfphnimlnaaDG
namespace Go.Proofs.Ythfmmfphnimlnaa
open Go.RowKit
set_option linter.unusedVariables false
set_option linter.unusedSimpArgs false
theorem and4 {a b c : Bool} (h : ((!a && b) && c) = true) : a = false ∧ b = true ∧ c = true := by
  cases a <;> cases b <;> cases c <;> simp_all
theorem and5 {a b c d : Bool} (h : (!a && (b && (c && d))) = true) : a = false ∧ b = true ∧ c = true ∧ d = true := by
  cases a <;> cases b <;> cases c <;> cases d <;> simp_all
theorem list_s {α : Type} {fi fd : Qs → α × Qs} (hi : ∀ q, Sml q → (fi q).2.2 = false → q.2 = false ∧ fd q = fi q) (hsm : ∀ q, Sml q → Sml (fi q).2) {q : Qs} (hs : Sml q) {m : Int} (hm : 0 ≤ m) (hM : m < 9223372036854775808) (h : (rdL fi (nmV q 2 m) (nmS q 2 m)).2.2 = false) :
    q.2 = false ∧ rdD fd (dK q 2) (dS q 2) = rdL fi (nmV q 2 m) (nmS q 2 m) := by
  obtain ⟨a1, a2⟩ := rd_s hi hsm _ _ (cS_sml hs _ _) h
  obtain ⟨b1, b2, b3⟩ := nm_s (q := q) (k := 2) (m := m) ok2 hm hM hs a1
  have b3' : dS q 2 = nmS q 2 m := b3
  have e3 : dK q 2 = nmV q 2 m := by
    have := dV_dK hs (m := 2) (by omega)
    rw [b2] at this
    exact (Int.ofNat.inj this).symm
  exact ⟨b1, by rw [b3', e3, a2]⟩
theorem list_c {α : Type} {fi fd : Qs → α × Qs} {P : α → Prop} (hc : ∀ q, Sml q → (fd q).2.2 = false → P (fd q).1 → q.2 = false ∧ fi q = fd q) (hmo : ∀ q, (fd q).2.2 = false → q.2 = false) (hsm : ∀ q, Sml q → Sml (fd q).2) {q : Qs} (hs : Sml q) {m : Nat} (hM : (m : Int) < 9223372036854775808) (h : (rdD fd (dK q 2) (dS q 2)).2.2 = false) (hl : (rdD fd (dK q 2) (dS q 2)).1.length ≤ m) (hP : ∀ x ∈ (rdD fd (dK q 2) (dS q 2)).1, P x) :
    q.2 = false ∧ rdL fi (nmV q 2 m) (nmS q 2 m) = rdD fd (dK q 2) (dS q 2) := by
  obtain ⟨a1, a2, a3⟩ := rd_c hc hmo hsm _ _ (hs.dS 2) h hP
  have hk : dK q 2 ≤ m := by rw [← a3]; exact hl
  have hv := dV_dK hs (m := 2) (by omega)
  obtain ⟨g1, g2⟩ := nm_c (q := q) (k := 2) (m := m) ok2 (by omega) hM hs a1 (by omega) (by omega)
  have g2' : nmS q 2 m = dS q 2 := g2
  have e3 : nmV q 2 m = dK q 2 := by rw [hv] at g1; exact Int.ofNat.inj g1
  exact ⟨(dS_mono a1).1, by rw [g2', e3, a2]⟩
theorem rdL_sml {α : Type} {f : Qs → α × Qs} (hsm : ∀ q, Sml q → Sml (f q).2) : ∀ n q, Sml q → Sml (rdL f n q).2
  | 0, q, h => h
  | n + 1, q, h => rdL_sml hsm n _ (hsm q h)
theorem rdO_sml (q : Qs) (h : Sml q) : Sml (rdO q).2 := rw_sm (q := oq2 q) (nm_sm (q := oq1 q) (nm_sm h))
theorem rdT_sml (q : Qs) (h : Sml q) : Sml (rdT q).2 := nm_sm (q := nmS (cpS q) 1 255) (nm_sm (q := cpS q) (cp_sm h))
theorem rdP_sml (q : Qs) (h : Sml q) : Sml (rdP q).2 := rdL_sml (f := rdC) (fun q h => cp_sm h) _ _ (nm_sm (q := nmS q 2 65535) (nm_sm h))
theorem nm_s2 {q : Qs} {m : Int} (hm : 0 ≤ m) (hM : m < 9223372036854775808) (hs : Sml q) (h : (nmS q 2 m).2 = false) : q.2 = false ∧ dV q 2 = (nmV q 2 m : Int) ∧ dS q 2 = nmS q 2 m := nm_s (k := 2) ok2 hm hM hs h
theorem nm_s4 {q : Qs} {m : Int} (hm : 0 ≤ m) (hM : m < 9223372036854775808) (hs : Sml q) (h : (nmS q 4 m).2 = false) : q.2 = false ∧ dV q 4 = (nmV q 4 m : Int) ∧ dS q 4 = nmS q 4 m := nm_s (k := 4) ok4 hm hM hs h
theorem nm_s8 {q : Qs} {m : Int} (hm : 0 ≤ m) (hM : m < 9223372036854775808) (hs : Sml q) (h : (nmS q 8 m).2 = false) : q.2 = false ∧ dV q 8 = (nmV q 8 m : Int) ∧ dS q 8 = nmS q 8 m := nm_s (k := 8) ok8 hm hM hs h
theorem nm_c4 {q : Qs} {m : Int} (hm : 0 ≤ m) (hM : m < 9223372036854775808) (hs : Sml q) (h : (dS q 4).2 = false) (h0 : 0 ≤ dV q 4) (h1 : dV q 4 ≤ m) : (nmV q 4 m : Int) = dV q 4 ∧ nmS q 4 m = dS q 4 := nm_c (k := 4) ok4 hm hM hs h h0 h1
theorem nm_c8 {q : Qs} {m : Int} (hm : 0 ≤ m) (hM : m < 9223372036854775808) (hs : Sml q) (h : (dS q 8).2 = false) (h0 : 0 ≤ dV q 8) (h1 : dV q 8 ≤ m) : (nmV q 8 m : Int) = dV q 8 ∧ nmS q 8 m = dS q 8 := nm_c (k := 8) ok8 hm hM hs h h0 h1
theorem row_s8 {q : Qs} (h : (rwS q 8).2 = false) : q.2 = false ∧ rD q 8 = q.1.take (rwN q 8) ∧ dS q 8 = rwS q 8 := row_s (m := 8) h
theorem row_c8 {q : Qs} (h : (dS q 8).2 = false) : rD q 8 = q.1.take (rwN q 8) ∧ dS q 8 = rwS q 8 := row_c (m := 8) h
theorem hd_s {q : Qs} (h : (hdS q).2 = false) : rD q 8 = mkB ∧ dS q 8 = hdS q := by
  have y1' : ((rwS q 8).2 || !decide (q.1.take (rwN q 8) = mkB)) = false := h
  rw [Bool.or_eq_false_iff] at y1'
  obtain ⟨z1, z2⟩ := y1'
  have z2' : q.1.take (rwN q 8) = mkB := by simpa using z2
  obtain ⟨r1, r2, r3⟩ := row_s8 z1
  refine ⟨by rw [r2, z2'], ?_⟩
  rw [r3]
  unfold hdS
  rw [z1, z2]
  exact Prod.ext rfl z1
theorem hd_c {q : Qs} (h : (dS q 8).2 = false) (hm : rD q 8 = mkB) : hdS q = dS q 8 := by
  obtain ⟨r2, r3⟩ := row_c8 h
  rw [hm] at r2
  unfold hdS
  rw [← r2, r3, decide_eq_true rfl]
  rw [r3] at h
  exact Prod.ext rfl (by simp)
theorem cf_eq_s {q : Qs} (hs : Sml q) (h : (cS q 10).2 = false) : q.2 = false ∧ dcS q 10 = cS q 10 ∧ dCf q = cfV q := by
  obtain ⟨y1, y2, y3⟩ := cfg_s hs 10 h
  refine ⟨y1, y2 10 (Nat.le_refl _), ?_⟩
  unfold dCf cfV
  rw [y3 0 (by omega), y3 1 (by omega), y3 2 (by omega), y3 3 (by omega), y3 4 (by omega), y3 5 (by omega), y3 6 (by omega), y3 7 (by omega), y3 8 (by omega), y3 9 (by omega)]
theorem cf_eq_c {q : Qs} (hs : Sml q) (h : (dcS q 10).2 = false) : q.2 = false ∧ cS q 10 = dcS q 10 ∧ cfV q = dCf q := by
  obtain ⟨y1, y2, y3⟩ := cfg_c hs 10 h
  refine ⟨y1, y2 10 (Nat.le_refl _), ?_⟩
  unfold dCf cfV
  rw [y3 0 (by omega), y3 1 (by omega), y3 2 (by omega), y3 3 (by omega), y3 4 (by omega), y3 5 (by omega), y3 6 (by omega), y3 7 (by omega), y3 8 (by omega), y3 9 (by omega)]
theorem cS_sm {q : Qs} (h : Sml q) : ∀ n, Sml (cS q n)
  | 0 => h
  | n + 1 => cS_sml (cS_sm h n) _ _
theorem st_s {q A1 A2 A3 : Qs} {RO : List Ob × Qs} {RT : List Tk × Qs} {RP : List Pc × Qs} (hs : Sml q) (hA1 : A1 = nmS q 8 4611686018427387905) (hA2 : A2 = nmS A1 4 65536) (hA3 : A3 = nmS A2 2 65535) (hRO : RO = rdL rdO (nmV A3 2 64) (nmS A3 2 64)) (hRT : RT = rdL rdT (nmV RO.2 2 256) (nmS RO.2 2 256)) (hRP : RP = rdL rdP (nmV RT.2 2 32) (nmS RT.2 2 32)) (h : RP.2.2 = false) :
    q.2 = false ∧ dS q 8 = A1 ∧ dS A1 4 = A2 ∧ dS A2 2 = A3 ∧ rdD oD (dK A3 2) (dS A3 2) = RO ∧ rdD tD (dK RO.2 2) (dS RO.2 2) = RT ∧ rdD pD (dK RT.2 2) (dS RT.2 2) = RP ∧ dV q 8 = (nmV q 8 4611686018427387905 : Int) ∧ dV A1 4 = (nmV A1 4 65536 : Int) ∧ dV A2 2 = (nmV A2 2 65535 : Int) := by
  have t1 : Sml A1 := by rw [hA1]; exact cS_sml hs _ _
  have t2 : Sml A2 := by rw [hA2]; exact cS_sml t1 _ _
  have t3 : Sml A3 := by rw [hA3]; exact cS_sml t2 _ _
  have t4 : Sml RO.2 := by rw [hRO]; exact rdL_sml rdO_sml _ _ (cS_sml t3 _ _)
  have t5 : Sml RT.2 := by rw [hRT]; exact rdL_sml rdT_sml _ _ (cS_sml t4 _ _)
  rw [hRP] at h
  obtain ⟨a1, a2⟩ := list_s (fi := rdP) (fd := pD) p_s rdP_sml t5 (m := 32) (by omega) (by omega) h
  rw [← hRP] at a2
  rw [hRT] at a1
  obtain ⟨b1, b2⟩ := list_s (fi := rdT) (fd := tD) tk_s rdT_sml t4 (m := 256) (by omega) (by omega) a1
  rw [← hRT] at b2
  rw [hRO] at b1
  obtain ⟨c1, c2⟩ := list_s (fi := rdO) (fd := oD) ob_s rdO_sml t3 (m := 64) (by omega) (by omega) b1
  rw [← hRO] at c2
  rw [hA3] at c1
  obtain ⟨u1, u2, u3⟩ := nm_s2 (m := 65535) (by omega) (by omega) t2 c1
  rw [hA2] at u1
  obtain ⟨v1, v2, v3⟩ := nm_s4 (m := 65536) (by omega) (by omega) t1 u1
  rw [hA1] at v1
  obtain ⟨x1, x2, x3⟩ := nm_s8 (m := 4611686018427387905) (by omega) (by omega) hs v1
  rw [← hA3] at u3
  rw [← hA2] at v3
  rw [← hA1] at x3
  exact ⟨x1, x3, v3, u3, c2, b2, a2, x2, v2, u2⟩
theorem st_c {q A1 A2 A3 : Qs} {RO : List Ob × Qs} {RT : List Tk × Qs} {RP : List Pc × Qs} (hs : Sml q) (hA1 : A1 = dS q 8) (hA2 : A2 = dS A1 4) (hA3 : A3 = dS A2 2) (hRO : RO = rdD oD (dK A3 2) (dS A3 2)) (hRT : RT = rdD tD (dK RO.2 2) (dS RO.2 2)) (hRP : RP = rdD pD (dK RT.2 2) (dS RT.2 2)) (h : RP.2.2 = false)
    (g1 : 0 ≤ dV q 8 ∧ dV q 8 ≤ 4611686018427387905) (g2 : 0 ≤ dV A1 4 ∧ dV A1 4 ≤ 65536) (g3 : RO.1.length ≤ 64 ∧ ∀ x ∈ RO.1, PO x) (g4 : RT.1.length ≤ 256 ∧ ∀ x ∈ RT.1, PT x) (g5 : RP.1.length ≤ 32 ∧ ∀ x ∈ RP.1, PP x) :
    q.2 = false ∧ nmS q 8 4611686018427387905 = A1 ∧ nmS A1 4 65536 = A2 ∧ nmS A2 2 65535 = A3 ∧ rdL rdO (nmV A3 2 64) (nmS A3 2 64) = RO ∧ rdL rdT (nmV RO.2 2 256) (nmS RO.2 2 256) = RT ∧ rdL rdP (nmV RT.2 2 32) (nmS RT.2 2 32) = RP ∧ (nmV q 8 4611686018427387905 : Int) = dV q 8 ∧ (nmV A1 4 65536 : Int) = dV A1 4 ∧ (nmV A2 2 65535 : Int) = dV A2 2 := by
  have t1 : Sml A1 := by rw [hA1]; exact hs.dS 8
  have t2 : Sml A2 := by rw [hA2]; exact t1.dS 4
  have t3 : Sml A3 := by rw [hA3]; exact t2.dS 2
  have t4 : Sml RO.2 := by rw [hRO]; exact (rdD_all (f := oD) (P := fun _ => True) (I := Sml) (fun q h => ⟨trivial, (oD_all h).2⟩) _ _ (t3.dS 2)).2
  have t5 : Sml RT.2 := by rw [hRT]; exact (rdD_all (f := tD) (P := fun _ => True) (I := Sml) (fun q h => ⟨trivial, (tD_all h).2⟩) _ _ (t4.dS 2)).2
  rw [hRP] at h g5
  obtain ⟨a1, a2⟩ := list_c (fi := rdP) (fd := pD) (P := PP) p_c pD_mono (fun q h => (pD_all h).2) t5 (m := 32) (by omega) h g5.1 g5.2
  rw [← hRP] at a2
  rw [hRT] at a1 g4
  obtain ⟨b1, b2⟩ := list_c (fi := rdT) (fd := tD) (P := PT) tk_c tD_mono (fun q h => (tD_all h).2) t4 (m := 256) (by omega) a1 g4.1 g4.2
  rw [← hRT] at b2
  rw [hRO] at b1 g3
  obtain ⟨c1, c2⟩ := list_c (fi := rdO) (fd := oD) (P := PO) ob_c oD_mono (fun q h => (oD_all h).2) t3 (m := 64) (by omega) b1 g3.1 g3.2
  rw [← hRO] at c2
  rw [hA3] at c1
  obtain ⟨u2, u3⟩ := nm2_c t2 c1
  have u1 := (dS_mono c1).1
  rw [hA2] at u1
  obtain ⟨v2, v3⟩ := nm_c4 (m := 65536) (by omega) (by omega) t1 u1 g2.1 g2.2
  have v1 := (dS_mono u1).1
  rw [hA1] at v1
  obtain ⟨x2, x3⟩ := nm_c8 (m := 4611686018427387905) (by omega) (by omega) hs v1 g1.1 g1.2
  have x1 := (dS_mono v1).1
  rw [← hA3] at u3
  rw [← hA2] at v3
  rw [← hA1] at x3
  exact ⟨x1, x3, v3, u3, c2, b2, a2, x2, v2, u2⟩
theorem paE_eq (L : List Nat) : ∃ A1 A2 A3 RO RT RP, A1 = nmS (pa2 L) 8 4611686018427387905 ∧ A2 = nmS A1 4 65536 ∧ A3 = nmS A2 2 65535 ∧ RO = rdL rdO (nmV A3 2 64) (nmS A3 2 64) ∧ RT = rdL rdT (nmV RO.2 2 256) (nmS RO.2 2 256) ∧ RP = rdL rdP (nmV RT.2 2 32) (nmS RT.2 2 32) ∧ paE L = RP.2 ∧ paS L = ⟨RO.1, RT.1, RP.1, (nmV (pa2 L) 8 4611686018427387905 : Int), (nmV A1 4 65536 : Int), (nmV A2 2 65535 : Int)⟩ := by
  refine ⟨_, _, _, _, _, _, rfl, rfl, rfl, rfl, rfl, rfl, ?_, ?_⟩
  · simp only [paE, sS, pzS, tzS, obS2, Ythfmmfphnimlnaa.s3, Ythfmmfphnimlnaa.s2, Ythfmmfphnimlnaa.s1]
  · simp only [paS, sV, obV, tzV, pzV, tzS, obS2, Ythfmmfphnimlnaa.s3, Ythfmmfphnimlnaa.s2, Ythfmmfphnimlnaa.s1]
theorem dP_eq (L : List Nat) : ∃ A1 A2 A3 RO RT RP, A1 = dS (d10 L) 8 ∧ A2 = dS A1 4 ∧ A3 = dS A2 2 ∧ RO = rdD oD (dK A3 2) (dS A3 2) ∧ RT = rdD tD (dK RO.2 2) (dS RO.2 2) ∧ RP = rdD pD (dK RT.2 2) (dS RT.2 2) ∧ dP L = RP ∧ dSt L = ⟨RO.1, RT.1, RP.1, dV (d10 L) 8, dV A1 4, dV A2 2⟩ := by
  refine ⟨_, _, _, _, _, _, rfl, rfl, rfl, rfl, rfl, rfl, ?_, ?_⟩
  · simp only [dP, d16, dT, d15, dO, d14, d13, d12, d11]
  · simp only [dSt, dP, d16, dT, d15, dO, d14, d13, d12, d11]
theorem pa_of {L : List Nat} (hs : Sml (L, false)) (h : paB L = true) : dB L = true ∧ dC L = paC L ∧ dSt L = paS L := by
  unfold paB at h
  obtain ⟨hE, h1, hc⟩ := and4 h
  obtain ⟨A1, A2, A3, RO, RT, RP, hA1, hA2, hA3, hRO, hRT, hRP, eE, eS⟩ := paE_eq L
  obtain ⟨B1, B2, B3, SO, ST, SP, hB1, hB2, hB3, hSO, hST, hSP, fE, fS⟩ := dP_eq L
  have sq1 : Sml (pa1 L) := rw_sm (q := (L, false)) hs
  have sq2 : Sml (pa2 L) := cS_sm sq1 10
  obtain ⟨y0, x3, v3, u3, c2, b2, a2, x2, v2, u2⟩ := st_s sq2 hA1 hA2 hA3 hRO hRT hRP (by rw [← eE]; exact hE)
  obtain ⟨y1, y2, y3⟩ := cf_eq_s sq1 y0
  obtain ⟨r2, r3⟩ := hd_s (q := (L, false)) y1
  have e1 : d1 L = pa1 L := r3
  have e10 : d10 L = pa2 L := by unfold d10; rw [e1]; exact y2
  rw [e10, x3] at hB1
  subst hB1
  rw [v3] at hB2
  subst hB2
  rw [u3] at hB3
  subst hB3
  rw [c2] at hSO
  subst hSO
  rw [b2] at hST
  subst hST
  rw [a2] at hSP
  subst hSP
  have eC : dC L = paC L := by unfold dC paC; rw [e1]; exact y3
  have eST : dSt L = paS L := by rw [fS, eS, e10, x2, v2, u2]
  refine ⟨?_, eC, eST⟩
  unfold dB
  rw [fE, ← eE, eC, eST, hE, r2, h1, hc]
  rfl
theorem d_of {L : List Nat} (hs : Sml (L, false)) (h : dB L = true) : paB L = true := by
  unfold dB at h
  obtain ⟨hE, hm, h1, hc⟩ := and5 h
  have hm' : rD (L, false) 8 = mkB := by simpa using hm
  have hck : chk (dC L) (dSt L) 4096 = 0 := by simpa using hc
  obtain ⟨G, hta⟩ := good_of hck
  obtain ⟨A1, A2, A3, RO, RT, RP, hA1, hA2, hA3, hRO, hRT, hRP, eE, eS⟩ := paE_eq L
  obtain ⟨B1, B2, B3, SO, ST, SP, hB1, hB2, hB3, hSO, hST, hSP, fE, fS⟩ := dP_eq L
  have t1 : Sml (d1 L) := hs.dS 8
  have t10 : Sml (d10 L) := dcS_sml t1 10
  rw [fS] at G
  have g1 := G.pp
  have g2 := G.tt
  have g3 := G.oo
  have g4 := G.pl
  have g5 := G.tl
  have g6 := G.ol
  have g7 := G.nx
  have g8 := G.px
  simp only at g1 g2 g3 g4 g5 g6 g7 g8
  rw [show MI = 4611686018427387904 from rfl] at g7
  rw [fE] at hE
  obtain ⟨y0, x3, v3, u3, c2, b2, a2, x2, v2, u2⟩ := st_c t10 hB1 hB2 hB3 hSO hST hSP hE ⟨by omega, by omega⟩ ⟨by omega, by omega⟩ ⟨g6, g3⟩ ⟨g5, fun x hx => ⟨(g2 x hx).1, (g2 x hx).2.1⟩⟩ ⟨g4, fun x hx => ⟨(g1 x hx).2.2.1, (g1 x hx).2.2.2⟩⟩
  obtain ⟨y1, y2, y3⟩ := cf_eq_c t1 y0
  have r3 := hd_c (q := (L, false)) y1 hm'
  have e1 : pa1 L = d1 L := r3
  have e10 : pa2 L = d10 L := by unfold pa2 cfS; rw [e1]; exact y2
  rw [e10, x3] at hA1
  subst hA1
  rw [v3] at hA2
  subst hA2
  rw [u3] at hA3
  subst hA3
  rw [c2] at hRO
  subst hRO
  rw [b2] at hRT
  subst hRT
  rw [a2] at hRP
  subst hRP
  have eC : paC L = dC L := by unfold dC paC; rw [e1]; exact y3
  have eST : paS L = dSt L := by rw [fS, eS, e10, x2, v2, u2]
  unfold paB
  rw [eE, eC, eST, hE, hc, ← fE, h1]
  rfl
theorem dB_eq {L : List Nat} (hs : Sml (L, false)) : dB L = paB L := by
  cases h : paB L with
  | true => exact (pa_of hs h).1
  | false =>
    cases h2 : dB L with
    | false => rfl
    | true => rw [d_of hs h2] at h; cases h
end Go.Proofs.Ythfmmfphnimlnaa
namespace Go.Proofs.Ythfmmfphnimlnaa
open Go.RowKit
set_option linter.unusedVariables false
set_option linter.unusedSimpArgs false
def s0 : St := ⟨[], [], [], 0, 0, 0⟩
theorem sm0 (w : World) : Sm w s0 sl0 sl0 sl0 [] [] :=
  ⟨rfl, Lk.empty _ _, fun q h => (by cases h), Lk.empty _ _, rfl, Lk.empty _ _, fun q h => (by cases h), fun x h => (by cases h), fun q h => (by cases h), by simp, by simp, by simp, fun q h => (by cases h), fun q h => (by cases h)⟩
def rC (L : List Nat) : Cf := if paB L = true then paC L else cf0
def rS (L : List Nat) : St := if paB L = true then paS L else s0
def rE (L : List Nat) : Int := if paB L = true then 0 else 21
theorem img_any (ra : Option Addr) (rn rc : Nat) (L : List Nat) (w : World) (h : Row w ra rn rc L) (hn : rn ≤ 140737488355328) :
    Calls Try.prog 11 #[.slice ra rn rc] w fun x w' => ∃ a b d Q R, x = .returned (.tuple #[(rC L).v, stV a b d (rS L).nx (rS L).px (rS L).ta, .int .i64 (rE L)]) ∧ Sm w' (rS L) a b d Q R ∧ Below w.heap.size w w' := by
  refine (parse_any ra rn rc L w h hn).mono ?_
  rintro x w' ⟨hb, h1, h2⟩
  unfold rC rS rE
  cases hp : paB L with
  | true =>
    obtain ⟨a, b, d, Q, R, e, hs⟩ := h1 hp
    simp only [if_true]
    exact ⟨a, b, d, Q, R, e, hs, hb⟩
  | false =>
    simp only [Bool.false_eq_true, if_false]
    exact ⟨sl0, sl0, sl0, [], [], h2 hp, sm0 _, hb⟩
theorem doc_any (ra : Option Addr) (rn rc : Nat) (L : List Nat) (w : World) (h : Row w ra rn rc L) (hn : rn ≤ 140737488355328) :
    Calls Try.prog 10 #[.slice ra rn rc] w fun x w' => ∃ a b d Q R, x = .returned (.tuple #[(rC L).v, stV a b d (rS L).nx (rS L).px (rS L).ta, .int .i64 (rE L)]) ∧ Sm w' (rS L) a b d Q R ∧ Below w.heap.size w w' := by
  refine (dparse_any ra rn rc L w h hn).mono ?_
  rintro x w' ⟨hb, h1, h2⟩
  have hs : Sml (L, false) := h.small
  rw [dB_eq hs] at h1 h2
  unfold rC rS rE
  cases hp : paB L with
  | true =>
    obtain ⟨a, b, d, Q, R, e, hsm⟩ := h1 hp
    obtain ⟨_, e1, e2⟩ := pa_of hs hp
    rw [e2] at hsm e
    rw [e1] at e
    simp only [if_true]
    exact ⟨a, b, d, Q, R, e, hsm, hb⟩
  | false =>
    simp only [Bool.false_eq_true, if_false]
    exact ⟨sl0, sl0, sl0, [], [], h2 hp, sm0 _, hb⟩
set_option maxRecDepth 100000 in
set_option maxHeartbeats 4000000 in
theorem parses_law (ra : Option Addr) (rn rc : Nat) (L : List Nat) (w : World) (h : Row w ra rn rc L) (hn : rn ≤ 140737488355328) :
    Calls Try.prog 4 #[.slice ra rn rc] w fun e w' => e = .returned (.bool true) ∧ Below w.heap.size w w' := by
  have HD := hid (doc_any ra rn rc L w h hn)
  have HI : Hid (∀ U, Below w.heap.size w U → Calls Try.prog 11 #[.slice ra rn rc] U fun x w' => ∃ a b d Q R, x = .returned (.tuple #[(rC L).v, stV a b d (rS L).nx (rS L).px (rS L).ta, .int .i64 (rE L)]) ∧ Sm w' (rS L) a b d Q R ∧ Below U.heap.size U w') := fun U hU => img_any ra rn rc L U (h.later hU) hn
  have HSa := hid (same_any (rS L))
  generalize rC L = cv at HD HI
  generalize rE L = ev at HD HI
  generalize rS L = s at HD HI HSa
  have HK := hid known_any
  clear h hn
  obtain ⟨cw, co, cp, ce, cq, cr, cl, cs, cy, ck⟩ := cv
  simp only [Cf.v] at HD HI
  go_enter Try.func4, Try.ntmps4
  go_upto_region 2 with (first | (go_at_call 10; refine HD.out.mono ?_; rintro x w1 ⟨a, b, d, Q, R, rfl, hs1, hb1⟩; have HS1 := hid hs1; have HB1 := hid hb1; clear hs1 hb1))
  obtain ⟨V1, hV1⟩ : ∃ V, V = (w1.alloc (Obj.cells #[.int .i64 cw, .int .i64 co, .int .i64 cp, .int .i64 ce, .int .i64 cq, .int .i64 cr, .int .i64 cl, .int .i64 cs, .int .i64 cy, .int .i64 ck] 23)).alloc (Obj.cells #[.slice a.a a.n a.c, .slice b.a b.n b.c, .slice d.a d.n d.c, .int .i64 s.nx, .int .i64 s.px, .int .i64 s.ta] 28) := ⟨_, rfl⟩
  rw [← hV1]
  have HBv : Hid (Below w1.heap.size w1 V1) := by rw [hV1]; exact below2 _ _ _
  have HX4 : Hid (V1.rangeAt w1.heap.size 0 [.int .i64 cw, .int .i64 co, .int .i64 cp, .int .i64 ce, .int .i64 cq, .int .i64 cr, .int .i64 cl, .int .i64 cs, .int .i64 cy, .int .i64 ck]) := by rw [hV1]; exact rangeAt_later (below1 _ _) (rangeAt_new w1 [.int .i64 cw, .int .i64 co, .int .i64 cp, .int .i64 ce, .int .i64 cq, .int .i64 cr, .int .i64 cl, .int .i64 cs, .int .i64 cy, .int .i64 ck] _)
  have HX5 : Hid (V1.rangeAt (w1.heap.size + 1) 0 [.slice a.a a.n a.c, .slice b.a b.n b.c, .slice d.a d.n d.c, .int .i64 s.nx, .int .i64 s.px, .int .i64 s.ta]) := by
    rw [hV1]
    have := rangeAt_new (w1.alloc (Obj.cells #[.int .i64 cw, .int .i64 co, .int .i64 cp, .int .i64 ce, .int .i64 cq, .int .i64 cr, .int .i64 cl, .int .i64 cs, .int .i64 cy, .int .i64 ck] 23)) [.slice a.a a.n a.c, .slice b.a b.n b.c, .slice d.a d.n d.c, .int .i64 s.nx, .int .i64 s.px, .int .i64 s.ta] 28
    simp at this
    exact this
  obtain ⟨b3, hb3⟩ : ∃ k, k = w1.heap.size := ⟨_, rfl⟩
  rw [← hb3] at HX4 HX5 ⊢
  have HBV : Hid (Below w.heap.size w V1) := below_call HB1.out HBv.out
  have HSV := hid (HS1.out.later HBv.out)
  clear hV1 hb3 HBv HS1 HB1 HD
  go_upto_region 3 with (first | (go_at_call 11; refine (HI.out _ HBV.out).mono ?_; rintro x w2 ⟨a', b', d', Q', R', rfl, hs2, hb2⟩; have HS2 := hid hs2; have HB2 := hid hb2; clear hs2 hb2))
  obtain ⟨V2, hV2⟩ : ∃ V, V = (w2.alloc (Obj.cells #[.int .i64 cw, .int .i64 co, .int .i64 cp, .int .i64 ce, .int .i64 cq, .int .i64 cr, .int .i64 cl, .int .i64 cs, .int .i64 cy, .int .i64 ck] 23)).alloc (Obj.cells #[.slice a'.a a'.n a'.c, .slice b'.a b'.n b'.c, .slice d'.a d'.n d'.c, .int .i64 s.nx, .int .i64 s.px, .int .i64 s.ta] 28) := ⟨_, rfl⟩
  rw [← hV2]
  have HBv : Hid (Below w2.heap.size w2 V2) := by rw [hV2]; exact below2 _ _ _
  have HX6 : Hid (V2.rangeAt w2.heap.size 0 [.int .i64 cw, .int .i64 co, .int .i64 cp, .int .i64 ce, .int .i64 cq, .int .i64 cr, .int .i64 cl, .int .i64 cs, .int .i64 cy, .int .i64 ck]) := by rw [hV2]; exact rangeAt_later (below1 _ _) (rangeAt_new w2 [.int .i64 cw, .int .i64 co, .int .i64 cp, .int .i64 ce, .int .i64 cq, .int .i64 cr, .int .i64 cl, .int .i64 cs, .int .i64 cy, .int .i64 ck] _)
  have HX7 : Hid (V2.rangeAt (w2.heap.size + 1) 0 [.slice a'.a a'.n a'.c, .slice b'.a b'.n b'.c, .slice d'.a d'.n d'.c, .int .i64 s.nx, .int .i64 s.px, .int .i64 s.ta]) := by
    rw [hV2]
    have := rangeAt_new (w2.alloc (Obj.cells #[.int .i64 cw, .int .i64 co, .int .i64 cp, .int .i64 ce, .int .i64 cq, .int .i64 cr, .int .i64 cl, .int .i64 cs, .int .i64 cy, .int .i64 ck] 23)) [.slice a'.a a'.n a'.c, .slice b'.a b'.n b'.c, .slice d'.a d'.n d'.c, .int .i64 s.nx, .int .i64 s.px, .int .i64 s.ta] 28
    simp at this
    exact this
  obtain ⟨b6, hb6⟩ : ∃ k, k = w2.heap.size := ⟨_, rfl⟩
  rw [← hb6] at HX6 HX7 ⊢
  have HB12 : Hid (Below V1.heap.size V1 V2) := below_call HB2.out HBv.out
  have HSW := hid (HS2.out.later HBv.out)
  clear hV2 hb6 HBv HS2 HB2 HI
  go_wp2_with (first
    | (go_at_call 8; refine (HK.out V2).mono ?_; rintro e w3 ⟨rfl, hb3⟩; have HB3 := hid hb3; have HL6 : Hid ((Instr.loadAt 23 (.pointer (some ⟨b6, 0, none⟩))).run Try.prog w3 = .ok (.agg #[.int .i64 cw, .int .i64 co, .int .i64 cp, .int .i64 ce, .int .i64 cq, .int .i64 cr, .int .i64 cl, .int .i64 cs, .int .i64 cy, .int .i64 ck]) w3) := ldF (rangeAt_later hb3 HX6.out) rfl; have HL4 : Hid ((Instr.loadAt 23 (.pointer (some ⟨b3, 0, none⟩))).run Try.prog w3 = .ok (.agg #[.int .i64 cw, .int .i64 co, .int .i64 cp, .int .i64 ce, .int .i64 cq, .int .i64 cr, .int .i64 cl, .int .i64 cs, .int .i64 cy, .int .i64 ck]) w3) := ldF (rangeAt_later (below_call HB12.out hb3) HX4.out) rfl; have HL7 : Hid ((Instr.loadAt 28 (.pointer (some ⟨b6 + 1, 0, none⟩))).run Try.prog w3 = .ok (stV a' b' d' s.nx s.px s.ta) w3) := ldS (rangeAt_later hb3 HX7.out) rfl; have HL5 : Hid ((Instr.loadAt 28 (.pointer (some ⟨b3 + 1, 0, none⟩))).run Try.prog w3 = .ok (stV a b d s.nx s.px s.ta) w3) := ldS (rangeAt_later (below_call HB12.out hb3) HX5.out) rfl; clear hb3)
    | ((with_reducible refine ld_armg HL6.out ?_ ?_ ?_); (· rfl); (· rfl)) | ((with_reducible refine ld_armg HL4.out ?_ ?_ ?_); (· rfl); (· rfl)) | ((with_reducible refine ld_armg HL7.out ?_ ?_ ?_); (· rfl); (· rfl)) | ((with_reducible refine ld_armg HL5.out ?_ ?_ ?_); (· rfl); (· rfl))
    | (go_at_call 12; refine (HSa.out a' b' d' a b d Q' Q R' R w3 (HSW.out.later HB3.out) (HSV.out.later (below_call HB12.out HB3.out))).mono ?_; rintro e w4 ⟨rfl, hb4⟩; have HB4 := hid hb4; clear hb4))
  go_ret
  exact ⟨rfl, below_call HBV.out (below_call HB12.out (below_call HB3.out HB4.out))⟩
end Go.Proofs.Ythfmmfphnimlnaa
