import Derived.Test.YtejkbeeffllpfaaLM
import Derived.Test.YtejkbeeffllpfaaLN
import Derived.Test.YtejkbeeffllpfaaKD
namespace Go.Proofs.Ytejkbeeffllpfaa
open Go.RowKit
set_option linter.unusedVariables false
set_option linter.unusedSimpArgs false

set_option maxRecDepth 1000000 in
set_option maxHeartbeats 8000000 in
theorem lives_walk (x : Option Addr) (k cap : Nat) (f : Nat → Lif) (w : World) (hF : Lfs w x k cap f) (hk : k ≤ 4611686018427387000) :
    Calls Try.prog 3 #[.slice x k cap] w fun e w' => e = .returned (.bool true) ∧ Below w.heap.size w w' := by
  have HF := hid hF
  clear hF
  go_enter Try.func3, Try.ntmps3
  go_upto_region 2 with (first | (go_at_call 6; refine (st_new 8 32 _ (by omega) (by omega)).mono ?_; rintro e w1 ⟨z, hn, hroom, rfl, S1, hz, hb1⟩))
  have HS1 := hid S1
  have HZ := hid hz
  have HB1 := hid hb1
  have HN := hid hn
  have HRM := hid hroom
  clear S1 hz hb1 hn hroom
  go_upto_region 8 with (first | (go_at_call 7; refine (head_any _).mono ?_; rintro e w2 ⟨rfl, b2⟩; have HS2 := hid (HS1.out.later b2); have HB2 := hid (below_call HB1.out b2); have HSZ := hid b2.size; clear b2))
  go_loopw [5, 6, 7, 8, 9] (LvRel w z k) (fun _ _ _ _ v _ => k - ivN v)
  case atStart =>
    refine ⟨0, 0, 1, [], fun _ => 0, fun j => if (j = z.s ∨ j = z.g ∨ j = z.pb ∨ j = z.m) then 5 else 0, none, 0, none, 0, none, 0, rfl, rfl, rfl, rfl, rfl, rfl, Nat.zero_le _, by omega, ⟨HS2.out, Gro.nil _ _ _, Gro.nil _ _ _, Gro.nil _ _ _, fun o ho => (by cases ho), fun j hj => (by obtain ⟨_, h, _⟩ := hj; cases h), fun j hj => (by obtain ⟨_, h, _⟩ := hj; cases h), fun j hj => (by obtain ⟨_, h, _⟩ := hj; cases h), fun o ho => (by cases ho), fun j hj => if_pos hj, fun j hj => (by obtain ⟨_, h, _⟩ := hj; cases h), fun j hj => ?_, fun j hj => ?_, HB2.out.size, fun o ho => (by cases ho)⟩, HB2.out⟩
    · by_cases e : j = z.s ∨ j = z.g ∨ j = z.pb ∨ j = z.m
      · exact HS2.out.zlt j e
      · rw [if_neg e] at hj
        exact absurd rfl hj
    · by_cases e : j = z.s ∨ j = z.g ∨ j = z.pb ∨ j = z.m
      · exact (HZ.out j e).1
      · rw [if_neg e] at hj
        exact absurd rfl hj
  case round =>
    clear HS1 HS2 HB1 HB2 HSZ HZ
    obtain ⟨i, L, nx, Os, G, col, aI, cI, aS, cS, aW, cW, rfl, rfl, rfl, rfl, rfl, hL, hi, hnx, hLv, hB⟩ := hrel
    have HL := hid hL
    have HLv := hid hLv
    have HB := hid hB
    have HNX := hid hnx
    have hL8 : L ≤ 8 := by rw [hL, ← HRM.out]; exact hLv.st.rm
    clear hL hLv hB hnx
    by_cases hlt : i < k
    · obtain ⟨b, o, rfl, hc⟩ := HF.out.plain (by omega)
      have HC := hid (hc i hlt)
      clear hc
      refine lv_round w z nx Os G col aI cI aS cS aW cW b o k cap i L (f i) wr HN.out HRM.out HL.out hk HNX.out HLv.out HB.out hlt HF.out.cap_ HC.out (HF.out.ok i hlt) (fun c a d v w h => by cases d <;> exact h) ?_
      rintro L' nx' Os' G' col' aI' cI' aS' cS' aW' cW' w' ⟨hL', hnx', hLv', hB'⟩
      intros
      have HL' := hid hL'
      have HN' := hid hnx'
      have HV' := hid hLv'
      have HB' := hid hB'
      clear hL' hnx' hLv' hB'
      go_wp2
      exact ⟨⟨i + 1, L', nx', Os', G', col', aI', cI', aS', cS', aW', cW', rfl, rfl, rfl, rfl, rfl, HL'.out, by omega, by have := HN'.out; omega, HV'.out, HB'.out⟩, by simp [ivN]; omega⟩
    · obtain rfl : i = k := by omega
      have hd : decide ((i : Int) < (i : Int)) = false := by simp
      go_upto_region 45 with fail
      refine lv_b8 w.heap.size z nx Os aI cI L wr HLv.out.st (by rw [HL.out]; exact HLv.out.rI.row) HL.out hL8 (fun j hj e => by have h1 := HLv.out.kI j hj; have h2 := HLv.out.kZ j e; omega) (fun j e => HLv.out.ge j (by rw [HLv.out.kZ j e]; decide)) HLv.out.hb ?_
      rintro a' c' w' ⟨hS', hB'⟩
      intros
      have HS' := hid hS'
      have HB' := hid (HB.out.trans hB')
      have HUS : Hid ((((z.n - usedN ([] : List Ob) : Nat)) : Int) = 32) := hid (by rw [HN.out]; rfl)
      clear hS' hB'
      go_wp2_with (first
        | (go_at_call 9; refine (st_free z nx [] _ HS'.out).mono ?_; rintro e w3 ⟨rfl, b3⟩; rw [HUS.out]; have HS3 := hid (HS'.out.later b3); have HB3 := hid (HB'.out.trans (b3.mono HB'.out.size)); clear b3)
        | (go_at_call 14; refine (st_ids z nx [] _ HS3.out).mono ?_; rintro e w4 ⟨a4, c4, rfl, O4, b4⟩; have HB4 := hid (HB3.out.trans (b4.mono HB3.out.size)); clear b4 O4))
      go_ret
      exact ⟨rfl, HB4.out⟩
end Go.Proofs.Ytejkbeeffllpfaa
