import Derived.Test.YtgihdchgdejkhaaGreatDoorMK
namespace Go.Proofs.YtgihdchgdejkhaaGreatDoor.H.I
open Go.RowKit
set_option linter.unusedVariables false

/-- What is behind settle. -/
def Settled (w : World) (g gb kn mo : Nat) (li sp : Int) (N : Nat) (L : List Q) (at_ : Nat) (pc : Cp) (pv : Int) (W : World) : Prop :=
  ∃ (to_ d : Nat) (q : Q), d < N ∧ to_ = (hm kn N pc + d) % N ∧ L[to_]? = some q ∧ q.k ≠ 1 ∧ q.k ≠ 2 ∧ (∀ e, e < d → ∀ p' : Q, L[(hm kn N pc + e) % N]? = some p' → p'.k = 1 ∨ p'.k = 2) ∧ Tm W g gb kn mo li sp N ((L.set at_ q).set to_ ⟨1, pc, pv⟩) ∧ But (In g gb) w W
set_option maxRecDepth 100000 in
set_option maxHeartbeats 2000000 in
theorem settle_any {w : World} {g gb kn mo : Nat} {li sp : Int} {N : Nat} {L : List Q} (h : Tm w g gb kn mo li sp N L) (at_ : Nat) (p : Q) (hp : L[at_]? = some p) (hk : p.k = 3) :
    Calls Tryz.prog 138 #[.pointer (some ⟨g, 0, none⟩), .int .i64 (at_ : Int)] w fun e w' => e = .returned (.tuple #[]) ∧ Settled w g gb kn mo li sp N L at_ p.c p.v w' := by
  obtain ⟨pk, pc, pv⟩ := p
  obtain rfl : pk = 3 := hk
  have hat : at_ < N := by rw [← h.len]; exact get_lt hp
  have hP := h.at_ _ _ hp
  obtain ⟨c1, c2, c3⟩ := (⟨hP.c1, hP.c2, hP.c3⟩ : _ ∧ _ ∧ _)
  have y0 := h.a0
  have hbig := h.big
  have HH := hid h
  have HPl := hid hp
  have hok := h.ok _ _ hp
  have hop := fun (W : World) (hW : Tm W g gb kn mo li sp N L) => open_any hW ⟨at_, _, hp, by simp, by simp⟩ pc.1 pc.2.1 pc.2.2 hok.1 hok.2
  clear h hP hp
  go_enter Tryz.func138, Tryz.ntmps138
  go_upto_region 1 with (first | (go_at_call 136; refine (hop _ HH.out).mono ?_; rintro e w2 ⟨⟨to_, d, q, hd, hto, hq, hq1, hq2, hpath, rfl⟩, hb2⟩; have HTo := hid hto; have HPath := hid hpath; have HQ := hid hq; have HB2 := hid hb2; clear hto hpath hq hb2))
  have hT2 := HH.out.later HB2.out
  have hto2 : to_ < N := by rw [HTo.out]; exact Nat.mod_lt _ (by omega)
  have hP := hT2.at_ _ _ HPl.out
  have hQ := hT2.at_ _ _ HQ.out
  have z0 := hT2.a0
  obtain ⟨p0, p1, p2, p3, p4⟩ := hP
  obtain ⟨q0, q1, q2, q3, q4⟩ := hQ
  have hfr := hT2.fr
  have hne := hT2.ne
  have HT2 := hid hT2
  clear hT2 y0 c1 c2 c3
  have hfin : ∀ W : World, W = ((setP (setP w2 gb (at_ * 5) q) gb (to_ * 5) ⟨3, pc, pv⟩).setCell ⟨gb, to_ * 5, none⟩ (.int .i64 1)).drew →
      Settled w g gb kn mo li sp N L at_ pc pv W := by
    rintro W rfl
    have e1 : (L.set at_ q)[to_]? = some q := by
      rw [List.getElem?_set]
      split
      · next he => rw [if_pos (get_lt HPl.out)]
      · exact HQ.out
    have t1 := HT2.out.set HPl.out q (HT2.out.ok _ _ HQ.out)
    have t2 := t1.set e1 ⟨3, pc, pv⟩ hok
    have e2 : ((L.set at_ q).set to_ (⟨3, pc, pv⟩ : Q))[to_]? = some ⟨3, pc, pv⟩ := by
      rw [List.getElem?_set, if_pos rfl, if_pos (get_lt e1)]
    have t3 := t2.setK e2 1
    rw [List.set_set] at t3
    exact ⟨to_, d, q, hd, HTo.out, HQ.out, hq1, hq2, HPath.out, t3.later (Below.refl _ _).drew, ((setP_but (setP_but (But.of HB2.out) (.inr rfl) _ _) (.inr rfl) _ _).setCell (p := ⟨gb, to_ * 5, none⟩) (.inr rfl) _).call (Below.refl _ _).drew⟩
  have HF := hid hfin
  clear hfin
  by_cases hat2 : at_ = to_
  · subst hat2
    obtain rfl : q = ⟨3, pc, pv⟩ := by have := HQ.out; rw [HPl.out] at this; exact (Option.some.inj this).symm
    clear q0 q1 q2 q3 q4
    go_region
    go_wp2
    go_end0
    exact ⟨rfl, HF.out _ rfl⟩
  · have hat3 : to_ ≠ at_ := fun e => hat2 e.symm
    go_region
    go_wp2
    go_end0
    exact ⟨rfl, HF.out _ rfl⟩
end Go.Proofs.YtgihdchgdejkhaaGreatDoor.H.I
