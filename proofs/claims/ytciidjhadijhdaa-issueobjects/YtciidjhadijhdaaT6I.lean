import Derived.Test.YtciidjhadijhdaaT5I
import Derived.Test.YtciidjhadijhdaaHQ
import Derived.Deep.LoopGhost
namespace Go.Proofs.Ytciidjhadijhdaa.H.I
open Go.RowKit
set_option linter.unusedVariables false

/-- Behind remake. -/
def Anew (w : World) (g gb kn mo : Nat) (li : Int) (N : Nat) (L : List Q) (W : World) : Prop :=
  ∃ M : List Q, Tm W g gb kn mo li ((N : Int) - li) N M ∧ (∀ (j : Nat) (p : Q), M[j]? = some p → p.k = 0 ∨ p.k = 1) ∧ Way (hm kn N) (· ≠ 0) M ∧ (ents M).Perm (ents L) ∧ But (In g gb) w W
def LoosRel (w : World) (g gb kn mo : Nat) (li sp : Int) (N : Nat) (L : List Q) (t : Value) (W : World) : Prop :=
  ∃ (i : Nat) (M : List Q), i ≤ N ∧ t = .int .i64 (i : Int) ∧ Up i L M ∧ Tm W g gb kn mo li sp N M ∧ But (In g gb) w W
def SetsRel (w : World) (g gb kn mo : Nat) (li sp : Int) (N : Nat) (L : List Q) (t : Value) (W : World) : Prop :=
  ∃ (i : Nat) (M : List Q), i ≤ N ∧ t = .int .i64 (i : Int) ∧ Mid (hm kn N) L M i ∧ Tm W g gb kn mo li sp N M ∧ But (In g gb) w W
def SetRel (w : World) (g gb kn mo : Nat) (li sp : Int) (N : Nat) (L : List Q) (i k : Nat) (t : Value) (W : World) : Prop :=
  ∃ M : List Q, loo M = k ∧ Mid (hm kn N) L M i ∧ Tm W g gb kn mo li sp N M ∧ But (In g gb) w W
set_option maxRecDepth 100000 in
set_option maxHeartbeats 2000000 in
theorem remake_any {w : World} {g gb kn mo : Nat} {li sp : Int} {N : Nat} {L : List Q} (h : Tm w g gb kn mo li sp N L) (hk : ∀ (i : Nat) (p : Q), L[i]? = some p → p.k = 0 ∨ p.k = 1 ∨ p.k = 2) (hl0 : 0 ≤ li) (hl1 : li ≤ 1024) :
    Calls Try.prog 79 #[.pointer (some ⟨g, 0, none⟩)] w fun e w' => e = .returned (.tuple #[]) ∧ Anew w g gb kn mo li N L w' := by
  have HH := hid h
  have HK := hid hk
  have hpos := h.pos
  have hbig := h.big
  have hlen := hid h.len
  have x0 := h.a0
  have hne := h.ne
  clear h hk
  go_enter Try.func79, Try.ntmps79
  go_upto_region 1 with fail
  go_loopw [9] (LoosRel w g gb kn mo li sp N L) (fun t _ => N - (intOf t).toNat)
  case atStart => exact ⟨0, L, Nat.zero_le _, rfl, Up.zero _, HH.out, But.refl _ _⟩
  case round =>
    obtain ⟨i, M, hi, rfl, hU, hT, hB⟩ := hrel
    have HU := hid hU
    have HT := hid hT
    have HB := hid hB
    clear hU hB
    by_cases hlt : i < N
    · obtain ⟨p, hp⟩ := get_some (L := M) (i := i) (by rw [hT.len]; exact hlt)
      have hpL : Hid (L[i]? = some p) := by unfold Hid; rw [← HU.out.at_]; exact hp
      have y0 := hT.a0
      have c0 := (hT.at_ _ _ hp).c0
      have f0 := hT.fr (i * 5)
      have HP := hid hp
      clear hp hT
      have hc : p.k = 1 ∨ p.k = 2 ∨ (p.k ≠ 1 ∧ p.k ≠ 2) := by omega
      rcases hc with hk1 | hk2 | ⟨hk1, hk2⟩
      · have hrl := hid (relab_used hk1)
        have hst := hid (HT.out.setK HP.out 3)
        rw [hk1] at c0
        go_wp2
        refine ⟨⟨i + 1, _, by omega, by go_num, HU.out.step hpL.out hrl.out.symm, hst.out, HB.out.setCell (p := ⟨gb, i * 5, none⟩) (.inr rfl) _⟩, by simp [intOf]; omega⟩
      · have hrl := hid (relab_tomb hk2)
        have hst := hid (HT.out.setK HP.out 0)
        rw [hk2] at c0
        go_wp2
        refine ⟨⟨i + 1, _, by omega, by go_num, HU.out.step hpL.out hrl.out.symm, hst.out, HB.out.setCell (p := ⟨gb, i * 5, none⟩) (.inr rfl) _⟩, by simp [intOf]; omega⟩
      · have hrl := hid (relab_same hk1 hk2)
        have hn1 : (p.k == 1) = false := by simpa using hk1
        have hn2 : (p.k == 2) = false := by simpa using hk2
        go_wp2
        refine ⟨⟨i + 1, M, by omega, by go_num, HU.out.same hpL.out hrl.out, HT.out, HB.out⟩, by simp [intOf]; omega⟩
    · obtain rfl : i = N := by omega
      have hM := HU.out.fin_ (by rw [hlen.out]; exact Nat.le_refl _)
      have y0 := hT.a0
      have HM := hid hM
      clear hT hM
      go_upto_region 10 with fail
      go_loopw [44] (SetsRel w g gb kn mo li sp i L) (fun t _ => i - (intOf t).toNat)
      case atStart => exact ⟨0, M, Nat.zero_le _, rfl, by rw [HM.out]; exact Mid.start _ HK.out, HT.out, HB.out⟩
      case round =>
        obtain ⟨j, M2, hj, rfl, hMi, hT2, hB2⟩ := hrel
        have HMi := hid hMi
        have HT2 := hid hT2
        have HB2 := hid hB2
        clear hMi hB2
        by_cases hlt2 : j < i
        · clear hT2
          go_upto_region 12 with fail
          go_loopg [55] (loo M2) (SetRel w g gb kn mo li sp i L j)
          case atStart => exact ⟨M2, rfl, HMi.out, HT2.out, HB2.out⟩
          case round =>
            obtain ⟨M3, hlo, hMi3, hT3, hB3⟩ := hrel
            obtain ⟨p, hp⟩ := get_some (L := M3) (i := j) (by rw [hT3.len]; exact hlt2)
            have z0 := hT3.a0
            have c0 := (hT3.at_ _ _ hp).c0
            have HP := hid hp
            have HLo := hid hlo
            have HMi3 := hid hMi3
            have HT3 := hid hT3
            have HB3 := hid hB3
            clear hp hlo hMi3 hT3 hB3
            by_cases hk3 : p.k = 3
            · have HK3 := hid hk3
              rw [hk3] at c0
              clear hk3
              go_wp2_with (first | (go_at_call 85; refine (settle_any HT3.out j p HP.out HK3.out).mono ?_; rintro e w5 ⟨rfl, hS⟩; have HS := hid hS; clear hS))
              obtain ⟨to_, d, q, s1, s2, s3, s4, s5, s6, s7, s8⟩ := HS.out
              have hl3 := HT3.out.len
              obtain ⟨m1, m2⟩ := HMi3.out.settle HP.out HK3.out (by rw [hl3]; exact s1) (by rw [hl3]; exact s2) s3 s4 s5 (by rw [hl3]; exact s6)
              go_roundg (loo ((M3.set j q).set to_ ⟨1, p.c, p.v⟩))
              case measure => rw [← HLo.out]; exact m2
              case rel => exact ⟨_, rfl, m1, s7, HB3.out.trans s8⟩
            · have hn3 : (p.k == 3) = false := by simpa using hk3
              have HN3 := hid hk3
              clear hk3
              go_wp2
              exact ⟨⟨j + 1, M3, by omega, by go_num, HMi3.out.next HP.out HN3.out, HT3.out, HB3.out⟩, by simp [intOf]; omega⟩
        · obtain rfl : j = i := by omega
          have z0 := hT2.a0
          have z3 := hT2.a3.1
          have z4 := hT2.a4.1
          have z4' := hT2.a4.2
          have hsp := hid (hT2.spare ((j : Int) - li))
          clear hT2
          go_wp2
          go_region
          go_wp2
          go_end0
          have hl2 := HT2.out.len
          have he := HMi.out.fin_ (by rw [hl2]; exact Nat.le_refl _)
          exact ⟨rfl, M2, hsp.out.later (Below.refl _ _).drew, he.1, he.2, HMi.out.perm, (HB2.out.setCell (p := ⟨g, 4, none⟩) (.inl rfl) _).call (Below.refl _ _).drew⟩
end Go.Proofs.Ytciidjhadijhdaa.H.I
