import Derived.Test.YtdkadmnhfnilkaaB1
namespace Go.Proofs.Ytdkadmnhfnilkaa
open Go.RowKit
set_option linter.unusedVariables false

/-- What a list of capabilities reads. -/
structure Rd (w : World) (a : Option Addr) (n : Nat) (K : List Cp) : Prop where
  len : K.length = n
  at_ : 0 < n → ∃ b o, a = some ⟨b, o, none⟩ ∧ ∀ (i : Nat) (c : Cp), K[i]? = some c → Cel w b (o + i * 3) c
theorem Rd.but {S : Nat → Prop} {w w' : World} {a : Option Addr} {n : Nat} {K : List Cp} (hb : But S w w') (h : Rd w a n K) (hn : ∀ k, Blk a k → ¬ S k) : Rd w' a n K :=
  ⟨h.len, fun h0 => by
    obtain ⟨b, o, e, hc⟩ := h.at_ h0
    exact ⟨b, o, e, fun i c hi => (hc i c hi).but hb (hn b ⟨_, e, rfl⟩)⟩⟩
theorem Rd.later {w w' : World} {a : Option Addr} {n : Nat} {K : List Cp} (hb : Below w.heap.size w w') (h : Rd w a n K) : Rd w' a n K := h.but (S := fun _ => False) (But.of hb) (fun _ _ h => h)
theorem Ca.rd {w : World} {b : Nat} {K : List Cp} (h : Ca w b K) {n : Nat} (hn : K.length = n) : Rd w (some ⟨b, 0, none⟩) n K :=
  ⟨hn, fun _ => ⟨b, 0, rfl, fun i c hi => by rw [Nat.zero_add]; exact h.at_ i c hi⟩⟩
/-- A list of one, made in place. -/
theorem rd_one (w : World) (c : Cp) : Rd (w.alloc (Obj.cells #[.int .i64 c.1, .int .u64 (c.2.1 : Int), .int .u64 (c.2.2 : Int)] 34)) (some ⟨w.heap.size, 0, none⟩) 1 [c] :=
  ⟨rfl, fun _ => ⟨w.heap.size, 0, rfl, fun i d hi => by
    have h0 : i = 0 := by have := (List.getElem?_eq_some_iff.1 hi).1; simp at this; exact this
    subst h0
    simp at hi
    subst hi
    exact ⟨by simp [go_sem], by simp [go_sem], by simp [go_sem]⟩⟩⟩
def SameRel (w : World) (n : Nat) (K M : List Cp) (t : Value) (w' : World) : Prop :=
  ∃ i : Nat, i ≤ n ∧ t = .int .i64 (i : Int) ∧ (∀ j, j < i → K[j]? = M[j]?) ∧ ∃ q, w' = w.drewN q
set_option maxRecDepth 100000 in
set_option maxHeartbeats 1000000 in
theorem same_any {w : World} {a b : Option Addr} {n m : Nat} {K M : List Cp} (ca cb : Nat) (h : Rd w a n K) (k : Rd w b m M) (hn : n ≤ 140737488355328) (hm : m ≤ 140737488355328) :
    Calls Try.prog 14 #[.slice a n ca, .slice b m cb] w fun e w' => e = .returned (.bool (decide (K = M))) ∧ ∃ q, w' = w.drewN q := by
  have hl1 := h.len
  have hl2 := k.len
  have HH := hid h
  have HK := hid k
  clear h k
  by_cases hne : n = m
  · subst hne
    go_enter Try.func14, Try.ntmps14
    go_wp2
    go_loopw [5] (SameRel w n K M) (fun t _ => n - (intOf t).toNat)
    case atStart => exact ⟨0, Nat.zero_le _, rfl, fun j hj => absurd hj (Nat.not_lt_zero _), 0, rfl⟩
    case round =>
      obtain ⟨i, hi, rfl, heq, q, rfl⟩ := hrel
      have HE := hid heq
      clear heq
      by_cases hlt : i < n
      · obtain ⟨b1, o1, rfl, hc1⟩ := HH.out.at_ (by omega)
        obtain ⟨b2, o2, rfl, hc2⟩ := HK.out.at_ (by omega)
        obtain ⟨c, hc⟩ : ∃ c, K[i]? = some c := ⟨_, List.getElem?_eq_getElem (by omega)⟩
        obtain ⟨d, hd⟩ : ∃ d, M[i]? = some d := ⟨_, List.getElem?_eq_getElem (by omega)⟩
        obtain ⟨x0, x1, x2⟩ := (hc1 i c hc).later (below_drewN (Below.refl w.heap.size w) q)
        obtain ⟨y0, y1, y2⟩ := (hc2 i d hd).later (below_drewN (Below.refl w.heap.size w) q)
        have HC := hid hc
        have HD := hid hd
        clear hc1 hc2 hc hd
        by_cases hcd : c = d
        · have hq1 : cEq c.1 (c.2.1 : Int) (c.2.2 : Int) d.1 (d.2.1 : Int) (d.2.2 : Int) = true := by subst hcd; simp [cEq]
          have heq := fun W => neqC c.1 (c.2.1 : Int) (c.2.2 : Int) d.1 (d.2.1 : Int) (d.2.2 : Int) W
          simp only [hq1] at heq
          have HCD := hid hcd
          clear hcd
          generalize hwq : w.drewN q = wq at *
          have HWQ := hid hwq
          clear hwq
          go_upto_region 6 with fail
          go_quiet (fail)
          go_wp2
          refine ⟨⟨i + 1, by omega, by go_num, fun j hj => ?_, q + nq, by rw [← HWQ.out]; simp [World.drewN, Nat.add_assoc]⟩, by simp [intOf]; omega⟩
          rcases Nat.lt_or_ge j i with h3 | h3
          · exact HE.out j h3
          · obtain rfl : j = i := by omega
            rw [HC.out, HD.out, HCD.out]
        · have hq1 : cEq c.1 (c.2.1 : Int) (c.2.2 : Int) d.1 (d.2.1 : Int) (d.2.2 : Int) = false := by
            refine decide_eq_false fun hq => hcd ?_
            obtain ⟨q1, q2, q3⟩ := hq
            exact Prod.ext q1 (Prod.ext (Int.ofNat.inj q2) (Int.ofNat.inj q3))
          have heq := fun W => neqC c.1 (c.2.1 : Int) (c.2.2 : Int) d.1 (d.2.1 : Int) (d.2.2 : Int) W
          simp only [hq1] at heq
          have HF : Hid (decide (K = M) = false) := decide_eq_false (fun e => by
            subst e
            have := HC.out.symm.trans HD.out
            exact hcd (Option.some.inj this))
          clear hcd
          generalize hwq : w.drewN q = wq at *
          have HWQ := hid hwq
          clear hwq
          go_upto_region 6 with fail
          go_quiet (fail)
          go_wp2
          go_ret
          exact ⟨ret_bool HF.out.symm, q + nq, by rw [← HWQ.out]; simp [World.drewN, Nat.add_assoc]⟩
      · obtain rfl : i = n := by omega
        have HT : Hid (decide (K = M) = true) := decide_eq_true (by
          apply List.ext_getElem?
          intro j
          rcases Nat.lt_or_ge j i with h3 | h3
          · exact HE.out j h3
          · rw [List.getElem?_eq_none (by omega), List.getElem?_eq_none (by omega)])
        go_wp2
        go_ret
        exact ⟨ret_bool HT.out.symm, q, rfl⟩
  · have HF : Hid (decide (K = M) = false) := decide_eq_false (fun e => by subst e; omega)
    have hn1 : ((n : Int) != (m : Int)) = true := by simp; omega
    go_enter Try.func14, Try.ntmps14
    go_wp2
    go_ret
    exact ⟨ret_bool HF.out.symm, 0, rfl⟩
theorem tmod_in (x : Int) (t : Nat) (ht : 0 < t) : -(t : Int) < x.tmod t ∧ x.tmod t < t := by
  have h2 := Int.tmod_eq_emod (a := x) (b := (t : Int))
  have h3 := Int.emod_nonneg x (show (t : Int) ≠ 0 by omega)
  have h4 := Int.emod_lt_of_pos x (show 0 < (t : Int) by omega)
  rw [h2]
  split
  · simp; omega
  · next hc =>
    have hd : ¬ (t : Int) ∣ x := fun h => hc (.inr h)
    have : x % (t : Int) ≠ 0 := fun h => hd (Int.dvd_of_emod_eq_zero h)
    simp
    omega
theorem into_any (x : Int) (t : Nat) (w : World) (ht : 0 < t) (h2 : t ≤ 1024) :
    Calls Try.prog 7 #[.int .i64 x, .int .i64 (t : Int)] w fun e w' => (∃ r : Nat, r < t ∧ e = .returned (.int .i64 (r : Int))) ∧ w' = w := by
  obtain ⟨hr1, hr2⟩ := tmod_in x t ht
  have ht0 : ¬ ((t : Int) = 0) := by omega
  have ht1 : ¬ (t = 0) := by omega
  by_cases hc : x.tmod t < 0
  · have HV : Hid (x.tmod t + t = (((x.tmod t + t).toNat : Nat) : Int)) := by unfold Hid; omega
    have HR : Hid ((x.tmod t + t).toNat < t) := by unfold Hid; omega
    go_enter Try.func7, Try.ntmps7
    go_wp2
    go_ret
    exact ⟨⟨_, HR.out, ret_int HV.out⟩, rfl⟩
  · have HV : Hid (x.tmod t = (((x.tmod t).toNat : Nat) : Int)) := by unfold Hid; omega
    have HR : Hid ((x.tmod t).toNat < t) := by unfold Hid; omega
    go_enter Try.func7, Try.ntmps7
    go_wp2
    go_ret
    exact ⟨⟨_, HR.out, ret_int HV.out⟩, rfl⟩
end Go.Proofs.Ytdkadmnhfnilkaa
