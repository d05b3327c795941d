import Derived.Test.YtciidjhadijhdaaT1I
import Derived.Test.YtciidjhadijhdaaHA
namespace Go.Proofs.Ytciidjhadijhdaa.H.I
open Go.RowKit
set_option linter.unusedVariables false

def FindRel (w : World) (h N : Nat) (L : List Q) (o : Int) (hi lo : Nat) (s t : Value) (w' : World) : Prop :=
  ∃ d : Nat, d ≤ N ∧ s = .int .i64 (((h + d) % N : Nat) : Int) ∧ t = .int .i64 (d : Int) ∧ (∀ e, e < d → ∀ p : Q, L[(h + e) % N]? = some p → p.k = 1 → p.c ≠ (o, hi, lo)) ∧ Below w.heap.size w w' ∧ Bx w' w.heap.size o hi lo
set_option maxRecDepth 100000 in
set_option maxHeartbeats 1000000 in
theorem find_any {w : World} {g gb kn mo : Nat} {li sp : Int} {N : Nat} {L : List Q} (h : Tm w g gb kn mo li sp N L) (hw : Way (hm kn N) (· ≠ 0) L) (o : Int) (hi lo : Nat) (h1 : hi < B64) (h2 : lo < B64) :
    Calls Try.prog 77 #[.pointer (some ⟨g, 0, none⟩), .agg #[.int .i64 o, .int .u64 (hi : Int), .int .u64 (lo : Int)]] w fun e w' => ((∃ (i : Nat) (p : Q), L[i]? = some p ∧ p.k = 1 ∧ p.c = (o, hi, lo) ∧ e = .returned (.tuple #[.int .i64 (i : Int), .bool true])) ∨ ((∀ (i : Nat) (p : Q), L[i]? = some p → p.k = 1 → p.c ≠ (o, hi, lo)) ∧ e = .returned (.tuple #[.int .i64 0, .bool false]))) ∧ Below w.heap.size w w' := by
  have HH := hid h
  have HW := hid hw
  have hpos := h.pos
  have hbig := h.big
  have hlen := hid h.len
  have hx0 := (h.alloc (Obj.cells #[.int .i64 o, .int .u64 (hi : Int), .int .u64 (lo : Int)] 57)).a0
  have hf := fun (W : World) (hW : Tm W g gb kn mo li sp N L) => first_any hW o hi lo h1 h2
  have hlt := hid (hm_lt (kn := kn) (o, hi, lo) hpos)
  obtain ⟨hs, hE'⟩ : ∃ hs, hs = hm kn N (o, hi, lo) := ⟨_, rfl⟩
  rw [← hE'] at hf hlt
  have hE := hid hE'
  clear hE'
  clear h hw
  go_enter Try.func77, Try.ntmps77
  go_upto_region 3 with (first | (go_at_call 83; refine (hf _ (HH.out.alloc _)).mono ?_; rintro e w2 ⟨rfl, hb2⟩; have HB2 := hid (below_call (below1 _ _) hb2); have X0 := cell_later hb2 hx0; have HX := hid ((Bx.new w o hi lo).later hb2); clear hb2))
  clear hx0
  go_loopw [6, 16] (FindRel w hs N L o hi lo) (fun _ t _ => N - (intOf t).toNat)
  case atStart => exact ⟨0, Nat.zero_le _, by rw [Nat.add_zero, Nat.mod_eq_of_lt hlt.out], rfl, fun e he => absurd he (Nat.not_lt_zero _), HB2.out, HX.out⟩
  case round =>
    obtain ⟨d, hd, rfl, rfl, hno, hB, X⟩ := hrel
    have HNo := hid hno
    clear hno
    by_cases hlt2 : d < N
    · have hT := HH.out.later hB
      have hm1 : (hs + d) % N < N := Nat.mod_lt _ hpos
      obtain ⟨p, hp⟩ := get_some (L := L) (i := (hs + d) % N) (by rw [hlen.out]; exact hm1)
      have hP := hT.at_ _ p hp
      have y0 := hT.a0
      have hnx := hid (next_far hs d N)
      have HP := hid hp
      clear hp
      obtain ⟨c0, c1, c2, c3⟩ := (⟨hP.c0, hP.c1, hP.c2, hP.c3⟩ : _ ∧ _ ∧ _ ∧ _)
      obtain ⟨b0, b1, b2⟩ := (⟨X.c0, X.c1, X.c2⟩ : _ ∧ _ ∧ _)
      have HT := hid hT
      clear hT hP
      generalize hat : (hs + d) % N = at_ at *
      have hme : p.k = 0 ∨ p.k = 1 ∨ (p.k ≠ 0 ∧ p.k ≠ 1) := by omega
      rcases hme with hk | hk | ⟨hk, hk'⟩
      · rw [hk] at c0
        go_wp2
        refine bodyPost_ret (v := .tuple #[.int .i64 0, .bool false]) (by simp [results, Try.results77, go_sem]) rfl ⟨.inr ⟨?_, rfl⟩, hB⟩
        have hq : L[(hm kn N (o, hi, lo) + d) % L.length]? = some p := by rw [← hE.out, hlen.out, hat]; exact HP.out
        exact HW.out.none (fun e he q hq' => HNo.out e he q (by rw [hE.out]; rw [hlen.out] at hq'; exact hq')) hq hk
      · rw [hk] at c0
        by_cases hc : p.c = (o, hi, lo)
        · have hd1 : cEq p.c.1 (p.c.2.1 : Int) (p.c.2.2 : Int) o (hi : Int) (lo : Int) = true := by rw [hc]; simp [cEq]
          have heq := fun W => eqlC p.c.1 (p.c.2.1 : Int) (p.c.2.2 : Int) o (hi : Int) (lo : Int) W
          simp only [hd1] at heq
          go_upto_region 7 with fail
          go_quiet (fail)
          go_wp2
          refine bodyPost_ret (v := .tuple #[.int .i64 (at_ : Int), .bool true]) (by simp [results, Try.results77, go_sem]) rfl ⟨.inl ⟨at_, p, HP.out, hk, hc, rfl⟩, ?_⟩
          exact below_drewN hB _
        · have hd1 : cEq p.c.1 (p.c.2.1 : Int) (p.c.2.2 : Int) o (hi : Int) (lo : Int) = false := by
            refine decide_eq_false fun hq => hc ?_
            obtain ⟨q1, q2, q3⟩ := hq
            exact Prod.ext q1 (Prod.ext (Int.ofNat.inj q2) (Int.ofNat.inj q3))
          have heq := fun W => eqlC p.c.1 (p.c.2.1 : Int) (p.c.2.2 : Int) o (hi : Int) (lo : Int) W
          simp only [hd1] at heq
          go_upto_region 7 with fail
          go_quiet (fail)
          go_wp2_with (first | (go_at_call 84; refine (next_any (HT.out.later (below_drewN (Below.refl _ _) _)) _ (by assumption)).mono ?_; rintro e w3 ⟨rfl, rfl⟩))
          refine ⟨⟨d + 1, by omega, by rw [← hnx.out]; simp, by go_num, ?_, below_drewN hB _, X.later (below_drewN (Below.refl _ _) _)⟩, by simp [intOf]; omega⟩
          intro e he q hq hqk
          rcases Nat.lt_or_ge e d with h3 | h3
          · exact HNo.out e h3 q hq hqk
          · obtain rfl : e = d := by omega
            rw [hat, HP.out] at hq
            cases hq
            exact hc
      · have hn0 : (p.k == 0) = false := by simpa using hk
        have hn1 : (p.k == 1) = false := by simpa using hk'
        go_upto_region 7 with fail
        go_quiet (fail)
        go_wp2_with (first | (go_at_call 84; refine (next_any (HT.out.later (below_drewN (Below.refl _ _) _)) _ (by assumption)).mono ?_; rintro e w3 ⟨rfl, rfl⟩))
        refine ⟨⟨d + 1, by omega, by rw [← hnx.out]; simp, by go_num, ?_, below_drewN hB _, X.later (below_drewN (Below.refl _ _) _)⟩, by simp [intOf]; omega⟩
        intro e he q hq hqk
        rcases Nat.lt_or_ge e d with h3 | h3
        · exact HNo.out e h3 q hq hqk
        · obtain rfl : e = d := by omega
          rw [hat, HP.out] at hq
          cases hq
          exact absurd hqk hk'
    · obtain rfl : d = N := by omega
      go_wp2
      refine bodyPost_ret (v := .tuple #[.int .i64 0, .bool false]) (by simp [results, Try.results77, go_sem]) rfl ⟨.inr ⟨?_, rfl⟩, hB⟩
      exact HW.out.none' (fun e he q hq' => HNo.out e (by rw [← hlen.out]; exact he) q (by rw [hE.out]; rw [hlen.out] at hq'; exact hq'))
end Go.Proofs.Ytciidjhadijhdaa.H.I
