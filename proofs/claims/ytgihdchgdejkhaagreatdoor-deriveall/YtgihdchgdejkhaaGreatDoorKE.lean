import Derived.Test.YtgihdchgdejkhaaGreatDoorA1
import Derived.Test.YtgihdchgdejkhaaGreatDoorMV
import Derived.Laws.Bits128
import Derived.Laws.BitsAllLaws
import Derived.Test.YtgihdchgdejkhaaGreatDoorF2
namespace Go.Proofs.YtgihdchgdejkhaaGreatDoor.M

/-! ### Bits -/
/-! ### Masks -/
/-- Is the number a mask? -/
def validB (r : Int) : Bool := decide (1 ≤ r ∧ r ≤ 31)
theorem valid_nat {r : Int} (h : validB r = true) : ∃ n : Nat, r = (n : Int) ∧ 1 ≤ n ∧ n < 32 := by
  unfold validB at h
  have := of_decide_eq_true h
  exact ⟨r.toNat, by omega, by omega, by omega⟩
/-- The right number i. -/
def hasB (n i : Nat) : Bool := decide (n / 2 ^ i % 2 = 1)
/-- Are all rights of a among those of b? -/
def subN (a b : Nat) : Bool := decide (a &&& b = a)
def partB (a b : Int) : Bool := validB a && validB b && subN a.toNat b.toNat
theorem sub_rights : ∀ a, a < 32 → ∀ b, b < 32 → subN a b = (List.range 5).all (fun i => !hasB a i || hasB b i) := by decide +kernel
/-! ### Names -/
/-! ### Reading -/
/-! ### Part is an order, by the letters -/
end Go.Proofs.YtgihdchgdejkhaaGreatDoor.M
namespace Go.Proofs.YtgihdchgdejkhaaGreatDoor.M
open Go.RowKit

/-! ### Package mask: Valid, Part, Has, rightAt -/
theorem rvalid_any (r : Int) (w : World) :
    Calls Tryz.prog 102 #[.int .i64 r] w fun e w' => e = .returned (.bool (validB r)) ∧ w' = w := by
  by_cases h1 : 1 ≤ r
  · by_cases h2 : r ≤ 31
    · have hz : validB r = true := decide_eq_true (by omega)
      rw [hz]; clear hz
      go_enter Tryz.func102, Tryz.ntmps102
      go_wp2
      go_ret
      exact ⟨rfl, rfl⟩
    · have hz : validB r = false := decide_eq_false (by omega)
      rw [hz]; clear hz
      go_enter Tryz.func102, Tryz.ntmps102
      go_wp2
      go_ret
      exact ⟨rfl, rfl⟩
  · have hz : validB r = false := decide_eq_false (by omega)
    rw [hz]; clear hz
    go_enter Tryz.func102, Tryz.ntmps102
    go_wp2
    go_ret
    exact ⟨rfl, rfl⟩
end Go.Proofs.YtgihdchgdejkhaaGreatDoor.M
namespace Go.Proofs.YtgihdchgdejkhaaGreatDoor.M
open Go.RowKit

/-! ### The document's answer: has -/
theorem mod_beq (q : Nat) : ((q : Int) % 2 == 1) = decide (q % 2 = 1) := by
  by_cases h : q % 2 = 1
  · rw [decide_eq_true h]
    have : (q : Int) % 2 = 1 := by omega
    rw [this]; rfl
  · rw [decide_eq_false h, beq_eq_false_iff_ne]
    omega
def HasRel (n i : Nat) (r t : Value) : Prop := ∃ k : Nat, k ≤ i ∧ t = .int .i64 (k : Int) ∧ r = .int .i64 ((n / 2 ^ k : Nat) : Int)
set_option maxRecDepth 100000 in
set_option maxHeartbeats 1000000 in
theorem rhas_any (n i : Nat) (w : World) (hn : n < 32) (hi : i < 5) :
    Calls Tryz.prog 103 #[.int .i64 (n : Int), .int .i64 (i : Int)] w fun e w' => e = .returned (.bool (hasB n i)) ∧ w' = w := by
  have HS : Hid (HasRel n i (.int .i64 (n : Int)) (.int .i64 0)) := ⟨0, by omega, rfl, by simp⟩
  go_enter Tryz.func103, Tryz.ntmps103
  go_wp2
  go_loopw [0, 5] (fun r t w' => HasRel n i r t ∧ w' = w) (fun _ t _ => i - (intOf t).toNat)
  case atStart => exact ⟨HS.out, rfl⟩
  case round =>
    clear HS
    obtain ⟨⟨k, hk, rfl, rfl⟩, rfl⟩ := hrel
    obtain ⟨q, hq⟩ : ∃ q, q = n / 2 ^ k := ⟨_, rfl⟩
    have hqn : q < 32 := by rw [hq]; exact Nat.lt_of_le_of_lt (Nat.div_le_self _ _) hn
    rw [← hq]
    by_cases hlt : k < i
    · have hd : decide ((k : Int) < (i : Int)) = true := by simp; omega
      have HQ : Hid (q / 2 = n / 2 ^ (k + 1)) := by unfold Hid; rw [hq, Nat.pow_succ, ← Nat.div_div_eq_div_mul]
      clear hq
      go_wp2
      go_roundw
      case rel => exact ⟨⟨k + 1, by omega, by go_num, by rw [← HQ.out]; simp⟩, trivial⟩
      case measure => simp [intOf]; omega
    · obtain rfl : k = i := by omega
      have HQ : Hid (hasB n k = decide (q % 2 = 1)) := by unfold Hid hasB; rw [hq]
      clear hq
      go_wp2
      go_ret
      refine ⟨?_, rfl⟩
      rw [HQ.out]
      exact ret_bool (mod_beq q)

/-! ### Part, Names, Parse -/
def RPartRel (n m : Nat) (t : Value) : Prop := ∃ k : Nat, k ≤ 5 ∧ t = .int .i64 (k : Int) ∧ ∀ j, j < k → (!hasB n j || hasB m j) = true
theorem sub_yes {n m : Nat} (hn : n < 32) (hm : m < 32) (h : ∀ j, j < 5 → (!hasB n j || hasB m j) = true) : subN n m = true := by
  rw [sub_rights n hn m hm, List.all_eq_true]
  intro x hx
  exact h x (List.mem_range.1 hx)
theorem sub_no {n m j : Nat} (hn : n < 32) (hm : m < 32) (hj : j < 5) (h1 : hasB n j = true) (h2 : hasB m j = false) : subN n m = false := by
  rw [sub_rights n hn m hm, List.all_eq_false]
  exact ⟨j, List.mem_range.2 hj, by simp [h1, h2]⟩
set_option maxRecDepth 100000 in
set_option maxHeartbeats 1000000 in
theorem rpart_any (a b : Int) (w : World) :
    Calls Tryz.prog 71 #[.int .i64 a, .int .i64 b] w fun e w' => e = .returned (.bool (partB a b)) ∧ w' = w := by
  by_cases h1 : validB a = true
  · by_cases h2 : validB b = true
    · obtain ⟨n, rfl, _, hn⟩ := valid_nat h1
      obtain ⟨m, rfl, _, hm⟩ := valid_nat h2
      have HP : Hid (partB (n : Int) (m : Int) = subN n m) := by unfold Hid partB; rw [h1, h2]; simp
      have HS : Hid (RPartRel n m (.int .i64 0)) := ⟨0, by omega, rfl, fun j hj => by omega⟩
      go_enter Tryz.func71, Tryz.ntmps71
      go_wp2_with (first | (go_at_call 102; refine (rvalid_any _ _).mono ?_; rintro e w1 ⟨rfl, rfl⟩))
      rename World => w
      go_loopw [5] (fun t w' => RPartRel n m t ∧ w' = w) (fun t _ => 5 - (intOf t).toNat)
      case atStart => exact ⟨HS.out, rfl⟩
      case round =>
        clear HS
        obtain ⟨⟨k, hk, rfl, hall⟩, rfl⟩ := hrel
        have HA : Hid (∀ j, j < k → (!hasB n j || hasB m j) = true) := hall
        clear hall
        by_cases hlt : k < 5
        · have hd : decide ((k : Int) < 5) = true := by simp; omega
          by_cases p1 : hasB n k = true
          · by_cases p2 : hasB m k = true
            · have HN : Hid (RPartRel n m (.int .i64 ((k : Int) + 1))) := ⟨k + 1, by omega, rfl, fun j hj => by
                by_cases h : j = k
                · subst h; rw [p2]; simp
                · exact HA.out j (by omega)⟩
              go_wp2_with (first | (go_at_call 103; refine (rhas_any _ _ _ (by assumption) hlt).mono ?_; rintro e w1 ⟨rfl, rfl⟩))
              go_roundw
              case rel => exact ⟨HN.out, trivial⟩
              case measure => simp [intOf]; omega
            · have p2 : hasB m k = false := by simpa using p2
              have HZ : Hid (subN n m = false) := sub_no hn hm hlt p1 p2
              go_wp2_with (first | (go_at_call 103; refine (rhas_any _ _ _ (by assumption) hlt).mono ?_; rintro e w1 ⟨rfl, rfl⟩))
              go_ret
              refine ⟨?_, rfl⟩
              rw [HP.out, HZ.out]
              rfl
          · have p1 : hasB n k = false := by simpa using p1
            have HN : Hid (RPartRel n m (.int .i64 ((k : Int) + 1))) := ⟨k + 1, by omega, rfl, fun j hj => by
                by_cases h : j = k
                · subst h; rw [p1]; simp
                · exact HA.out j (by omega)⟩
            go_wp2_with (first | (go_at_call 103; refine (rhas_any _ _ _ (by assumption) hlt).mono ?_; rintro e w1 ⟨rfl, rfl⟩))
            go_roundw
            case rel => exact ⟨HN.out, trivial⟩
            case measure => simp [intOf]; omega
        · obtain rfl : k = 5 := by omega
          have HZ : Hid (subN n m = true) := sub_yes hn hm HA.out
          simp only [Int.cast_ofNat_Int]
          go_wp2
          go_ret
          refine ⟨?_, rfl⟩
          rw [HP.out, HZ.out]
          rfl
    · have h2 : validB b = false := by simpa using h2
      have hz : partB a b = false := by unfold partB; rw [h2]; simp
      rw [hz]; clear hz
      go_enter Tryz.func71, Tryz.ntmps71
      go_wp2_with (first | (go_at_call 102; refine (rvalid_any _ _).mono ?_; rintro e w1 ⟨rfl, rfl⟩))
      go_ret
      exact ⟨rfl, rfl⟩
  · have h1 : validB a = false := by simpa using h1
    have hz : partB a b = false := by unfold partB; rw [h1]; simp
    rw [hz]; clear hz
    go_enter Tryz.func71, Tryz.ntmps71
    go_wp2_with (first | (go_at_call 102; refine (rvalid_any _ _).mono ?_; rintro e w1 ⟨rfl, rfl⟩))
    go_ret
    exact ⟨rfl, rfl⟩
end Go.Proofs.YtgihdchgdejkhaaGreatDoor.M
namespace Go.Proofs.YtgihdchgdejkhaaGreatDoor.D
open Go.RowKit
theorem part_same (a b : Int) : M.partB a b = partB a b := rfl
/-- The document's Part. -/
theorem rpart03 (a b : Int) (w : World) : Calls Tryz.prog 71 #[.int .i64 a, .int .i64 b] w fun e w' => e = .returned (.bool (partB a b)) ∧ w' = w := by
  have := M.rpart_any a b w
  rwa [part_same] at this
end Go.Proofs.YtgihdchgdejkhaaGreatDoor.D
namespace Go.Proofs.YtgihdchgdejkhaaGreatDoor.D
open Go.RowKit
open Go.Proofs.YtgihdchgdejkhaaGreatDoor.H (B64 Cp)
set_option linter.unusedVariables false

/-! ### The document's calls -/
/-- The blocks that the document's calls write. -/
def Kw (K : Kd) (M : Nat) (N : Nat → Prop) (k : Nat) : Prop := K.m1 ≤ k ∧ k < M ∧ (k ≤ K.q ∨ N k)
/-- The document's three, all in blocks below M. -/
structure Dm (w : World) (P : Par) (K : Kd) (s : Sta) (T M : Nat) (N : Nat → Prop) : Prop where
  doc : Doc w P K s T
  q : ∃ pa cap, Q.Rf w K.m3 K.q P.e P.a pa cap s.L ∧ ∀ k, Blk pa k → N k ∧ k < M
  lt : K.q < M
  ge : ∀ k, w.heap.size ≤ k → N k
/-- The document's three: the list of its quota lies in blocks that N holds of. -/
structure Dz (w : World) (P : Par) (K : Kd) (s : Sta) (T : Nat) (N : Nat → Prop) : Prop where
  doc : Doc w P K s T
  q : ∃ pa cap, Q.Rf w K.m3 K.q P.e P.a pa cap s.L ∧ ∀ k, Blk pa k → N k
  lt : K.q < w.heap.size
  ge : ∀ k, w.heap.size ≤ k → N k
theorem Dm.of {w : World} {P : Par} {K : Kd} {s : Sta} {T : Nat} {N : Nat → Prop} (h : Dz w P K s T N) : Dm w P K s T w.heap.size N := by
  obtain ⟨pa, cap, hq, hp⟩ := h.q
  exact ⟨h.doc, ⟨pa, cap, hq, fun k hk => ⟨hp k hk, hq.own.lt k hk⟩⟩, h.lt, h.ge⟩
theorem Dm.dz {w : World} {P : Par} {K : Kd} {s : Sta} {T M : Nat} {N : Nat → Prop} (h : Dm w P K s T M N) (hM : M ≤ w.heap.size) : Dz w P K s T N := by
  obtain ⟨pa, cap, hq, hp⟩ := h.q
  exact ⟨h.doc, ⟨pa, cap, hq, fun k hk => (hp k hk).1⟩, Nat.lt_of_lt_of_le h.lt hM, h.ge⟩
theorem Dm.but {S : Nat → Prop} {w w' : World} {P : Par} {K : Kd} {s : Sta} {T M : Nat} {N : Nat → Prop} (h : Dm w P K s T M N) (hb : But S w w') (hS : ∀ k, S k → k < K.m1 ∨ M ≤ k ∨ (K.q < k ∧ ¬ N k)) : Dm w' P K s T M N := by
  obtain ⟨i1, i2, i3⟩ := h.doc.i1
  obtain ⟨j1, j2, j3, j4⟩ := h.doc.i2
  obtain ⟨wh, ev, hr, ht, he⟩ := h.doc.c
  obtain ⟨pa, cap, hq, hp⟩ := h.q
  have hlo := hq.lo
  have hlt := h.lt
  have hn : ∀ k, K.m1 ≤ k → k < M → (k ≤ K.q ∨ N k) → ¬ S k := fun k hk hm hz e => by
    rcases hS k e with g | g | ⟨g1, g2⟩
    · omega
    · omega
    · exact hz.elim (fun x => by omega) g2
  have hq' := hq.but hb (hn _ (by omega) (by omega) (.inl (Nat.le_refl _))) (fun k hk => hn _ (by have := hq.own.blk k hk; omega) (hp k hk).2 (.inr (hp k hk).1))
  exact ⟨⟨h.doc.d.but hb (hn _ i1 (by omega) (.inl (by omega))) (fun h0 => hn _ (i3 h0).1 (by have := i3 h0; omega) (.inl (by have := i3 h0; omega))), h.doc.cf, ⟨wh, ev, hr.but hb (hn _ (by omega) (by omega) (.inl (by omega))) (hn _ (by omega) (by omega) (.inl (by omega))), ht, he⟩, ⟨pa, cap, hq'⟩, h.doc.i1, h.doc.i2⟩, ⟨pa, cap, hq', hp⟩, hlt, fun k hk => h.ge k (Nat.le_trans hb.size hk)⟩
/-- What was made since is none of the document's. -/
def gapN (M X rb k : Nat) : Prop := rb < k ∧ (k < M ∨ X ≤ k)
theorem Dm.regap {w : World} {P : Par} {K : Kd} {s : Sta} {T M rb : Nat} {N : Nat → Prop} (h : Dm w P K s T M N) (hN : ∀ k, N k → rb < k) (hr : rb < w.heap.size) : Dm w P K s T M (gapN M w.heap.size rb) := by
  obtain ⟨pa, cap, hq, hp⟩ := h.q
  exact ⟨h.doc, ⟨pa, cap, hq, fun k hk => ⟨⟨hN k (hp k hk).1, .inl (hp k hk).2⟩, (hp k hk).2⟩⟩, h.lt, fun k hk => ⟨by omega, .inr hk⟩⟩
theorem Dz.weak {w : World} {P : Par} {K : Kd} {s : Sta} {T rb : Nat} {N : Nat → Prop} (h : Dz w P K s T N) (hN : ∀ k, N k → rb < k) (hr : rb < w.heap.size) : Dz w P K s T (fun k => rb < k) := by
  obtain ⟨pa, cap, hq, hp⟩ := h.q
  exact ⟨h.doc, ⟨pa, cap, hq, fun k hk => hN k (hp k hk)⟩, h.lt, fun k hk => Nat.lt_of_lt_of_le hr hk⟩
theorem Dm.later {w w' : World} {P : Par} {K : Kd} {s : Sta} {T M : Nat} {N : Nat → Prop} (h : Dm w P K s T M N) (hb : Below w.heap.size w w') : Dm w' P K s T M N := h.but (S := fun _ => False) (But.of hb) (fun _ h => h.elim)
theorem Dm.own {w : World} {P : Par} {K : Kd} {s : Sta} {T M b : Nat} {N : Nat → Prop} (h : Dm w P K s T M N) (hb : M ≤ b) (o : Nat) (u : Value) : Dm (w.setCell ⟨b, o, none⟩ u) P K s T M N := h.but (S := (· = b)) ((But.refl (· = b) _).own o u) (fun k hk => .inr (.inl (by omega)))
theorem Dz.own {w : World} {P : Par} {K : Kd} {s : Sta} {T b : Nat} {N : Nat → Prop} (h : Dz w P K s T N) (hb : ¬ N b) (hq : K.q < b) (o : Nat) (u : Value) : Dz (w.setCell ⟨b, o, none⟩ u) P K s T N :=
  ((Dm.of h).but (S := (· = b)) ((But.refl (· = b) _).own o u) (fun k hk => .inr (.inr (by rw [hk]; exact ⟨hq, hb⟩)))).dz ((But.refl (· = b) w).own o u).size
theorem Doc.mono {w : World} {P : Par} {K : Kd} {s : Sta} {T T' : Nat} (h : Doc w P K s T) (ht : T ≤ T') : Doc w P K s T' := by
  obtain ⟨wh, ev, h1, h2, h3⟩ := h.c
  exact ⟨h.d, h.cf, ⟨wh, ev, h1, h2, by omega⟩, h.q, h.i1, h.i2⟩
theorem Dm.mono {w : World} {P : Par} {K : Kd} {s : Sta} {T T' M : Nat} {N : Nat → Prop} (h : Dm w P K s T M N) (ht : T ≤ T') : Dm w P K s T' M N := ⟨h.doc.mono ht, h.q, h.lt, h.ge⟩
theorem Dm.draw {w w' : World} {P : Par} {K : Kd} {s : Sta} {T M t : Nat} {N : Nat → Prop} (h : Dm w P K s T M N) (hb : But (· = K.g) w w') (hd : Dw w' K.g K.gb P.n K.f K.W t) : Dm w' P K { s with t := t } T M N ∧ But (Kw K M N) w w' := by
  obtain ⟨i1, i2, i3⟩ := h.doc.i1
  obtain ⟨j1, j2, j3, j4⟩ := h.doc.i2
  obtain ⟨wh, ev, hr, ht, he⟩ := h.doc.c
  obtain ⟨pa, cap, hq, hp⟩ := h.q
  have hlo := hq.lo
  have hlt := h.lt
  have hq' := hq.but hb (fun e => by omega) (fun k hk e => by have := hq.own.blk k hk; omega)
  exact ⟨⟨⟨hd, h.doc.cf, ⟨wh, ev, hr.but hb (fun e => by omega) (fun e => by omega), ht, he⟩, ⟨pa, cap, hq'⟩, h.doc.i1, h.doc.i2⟩, ⟨pa, cap, hq', hp⟩, hlt, fun k hk => h.ge k (Nat.le_trans hb.size hk)⟩, hb.mono (fun k hk => ⟨by omega, by omega, .inl (by omega)⟩)⟩
theorem Dm.enter {w w' : World} {P : Par} {K : Kd} {s : Sta} {T T' M : Nat} {N : Nat → Prop} {X : List Tk} {l : Fo} (h : Dm w P K s T M N) (hb : But (fun k => k = K.r ∨ k = K.b) w w') (hc : ∃ wh ev, Rf w' K.r K.b P.mo X l wh ev ∧ Tim l wh ev ∧ ev ≤ T') : Dm w' P K { s with X := X, l := l } T' M N ∧ But (Kw K M N) w w' := by
  obtain ⟨i1, i2, i3⟩ := h.doc.i1
  obtain ⟨j1, j2, j3, j4⟩ := h.doc.i2
  obtain ⟨pa, cap, hq, hp⟩ := h.q
  have hlo := hq.lo
  have hlt := h.lt
  have hq' := hq.but hb (fun e => by omega) (fun k hk e => by have := hq.own.blk k hk; omega)
  exact ⟨⟨⟨h.doc.d.but hb (fun e => by omega) (fun h0 e => by have := i3 h0; omega), h.doc.cf, hc, ⟨pa, cap, hq'⟩, h.doc.i1, h.doc.i2⟩, ⟨pa, cap, hq', hp⟩, hlt, fun k hk => h.ge k (Nat.le_trans hb.size hk)⟩, hb.mono (fun k hk => ⟨by omega, by omega, .inl (by omega)⟩)⟩
theorem Dm.count {w w' : World} {P : Par} {K : Kd} {s : Sta} {T M : Nat} {N : Nat → Prop} {L : List Int} {pa pa' : Option Addr} {cap cap' : Nat} (h : Dm w P K s T M N) (hq : Q.Rf w K.m3 K.q P.e P.a pa cap s.L) (hp : ∀ k, Blk pa k → N k ∧ k < M) (hM : M ≤ w.heap.size) (hd : Q.Rd w w' K.q pa pa') (hq' : Q.Rf w' K.m3 K.q P.e P.a pa' cap' L) : Dz w' P K { s with L := L } T N ∧ But (Kw K M N) w w' := by
  obtain ⟨i1, i2, i3⟩ := h.doc.i1
  obtain ⟨j1, j2, j3, j4⟩ := h.doc.i2
  obtain ⟨wh, ev, hr, ht, he⟩ := h.doc.c
  have hlo := hq.lo
  have hlt := h.lt
  have hS : ∀ k, (k = K.q ∨ Blk pa k) → K.m3 ≤ k ∧ k < M ∧ (k ≤ K.q ∨ N k) := fun k hk => by
    rcases hk with rfl | hk
    · exact ⟨hlo, by omega, .inl (Nat.le_refl _)⟩
    · exact ⟨hq.own.blk k hk, (hp k hk).2, .inr (hp k hk).1⟩
  have hb := hd.but
  have hsz := hb.size
  exact ⟨⟨⟨h.doc.d.but hb (fun e => by have := hS _ e; omega) (fun h0 e => by have := hS _ e; have := i3 h0; omega), h.doc.cf, ⟨wh, ev, hr.but hb (fun e => by have := hS _ e; omega) (fun e => by have := hS _ e; omega), ht, he⟩, ⟨_, _, hq'⟩, h.doc.i1, h.doc.i2⟩, ⟨_, _, hq', fun k hk => by
    rcases hd.on k hk with g | g
    · exact (hp k g).1
    · exact h.ge k g⟩, by omega, fun k hk => h.ge k (by omega)⟩, hb.mono (fun k hk => ⟨by have := (hS k hk).1; omega, (hS k hk).2.1, (hS k hk).2.2⟩)⟩
theorem rdraw14 {w : World} {P : Par} {K : Kd} {s : Sta} {T M : Nat} {N : Nat → Prop} (h : Dm w P K s T M N) : Calls Tryz.prog 67 #[.pointer (some ⟨K.g, 0, none⟩)] w fun e w' => e = .returned (.tuple #[.agg #[.int .u64 (hiI (drawD P s.t).1), .int .u64 (loI (drawD P s.t).1)], .int .i64 (drawD P s.t).2.1]) ∧ Dm w' P K { s with t := (drawD P s.t).2.2 } T M N ∧ But (Kw K M N) w w' := by
  unfold drawD
  by_cases ht : s.t < P.n
  · rw [if_pos ht]
    refine (rdraw_more K.g K.gb P.n K.f K.W s.t w h.doc.d ht).mono ?_
    rintro e w' ⟨rfl, hd, hb⟩
    refine ⟨?_, h.draw hb hd⟩
    rw [h.doc.cf]; rfl
  · rw [if_neg ht]
    have hle := h.doc.d.le
    have he : s.t = P.n := by omega
    have hd := h.doc.d
    rw [he] at hd
    refine (rdraw_end K.g K.gb P.n K.f K.W w hd).mono ?_
    rintro e w' ⟨rfl, hb⟩
    have z1 : hiI 0 = 0 := by simp [hiI]
    have z2 : loI 0 = 0 := by simp [loI]
    exact ⟨by simp only [z1, z2], h.later hb, But.of hb⟩
theorem riof14 {w : World} {P : Par} {K : Kd} {s : Sta} {T M : Nat} {N : Nat → Prop} (h : Dm w P K s T M N) (hv : Inv P.mo s.X s.l) (o : Int) : Calls Tryz.prog 72 #[.pointer (some ⟨K.g, 0, none⟩), .pointer (some ⟨K.r, 0, none⟩), .int .i64 o] w fun e w' => e = .returned (.tuple #[.agg #[.int .u64 (hiI (childD P s o).1), .int .u64 (loI (childD P s o).1)], .int .i64 (childD P s o).2.1]) ∧ Dm w' P K { s with t := (childD P s o).2.2 } T M N ∧ But (Kw K M N) w w' := by
  obtain ⟨wh, ev, hr, ht, he⟩ := h.doc.c
  refine (riof_any h.doc.d hr hv ht o).mono ?_
  unfold childD
  rw [h.doc.cf]
  rintro e w' ⟨rfl, hd, hb⟩
  exact ⟨rfl, h.draw hb hd⟩
theorem rroot14 {w : World} {P : Par} {K : Kd} {s : Sta} {T M : Nat} {N : Nat → Prop} (h : Dm w P K s T M N) (hv : Inv P.mo s.X s.l) (hT : T < 9223372036854775807) (c : Cp) (rt : Int) (hw : c.2.1 < B64 ∧ c.2.2 < B64) : Calls Tryz.prog 68 #[.pointer (some ⟨K.r, 0, none⟩), cpV c, .int .i64 rt] w fun e w' => e = .returned (.tuple #[.int .i64 (rootR P.mo s.X s.l c rt).num, .int .i64 (rootR P.mo s.X s.l c rt).code]) ∧ Dm w' P K { s with X := (rootR P.mo s.X s.l c rt).X, l := (rootR P.mo s.X s.l c rt).l } (T + 1) M N ∧ But (Kw K M N) w w' := by
  obtain ⟨wh, ev, hr, ht, he⟩ := h.doc.c
  refine (rroot_any hr hv ht (by omega) c rt hw).mono ?_
  rintro e w' ⟨rfl, ⟨wh', ev', g1, g2, g3⟩, hb⟩
  exact ⟨rfl, h.enter hb ⟨wh', ev', g1, g2, by omega⟩⟩
theorem rchild14 {w : World} {P : Par} {K : Kd} {s : Sta} {T M : Nat} {N : Nat → Prop} (h : Dm w P K s T M N) (hv : Inv P.mo s.X s.l) (hT : T < 9223372036854775807) (p : Int) (c : Cp) (rt : Int) (hw : c.2.1 < B64 ∧ c.2.2 < B64) : Calls Tryz.prog 73 #[.pointer (some ⟨K.r, 0, none⟩), .int .i64 p, cpV c, .int .i64 rt] w fun e w' => e = .returned (.tuple #[.int .i64 (childR P.mo s.X s.l p c rt).num, .int .i64 (childR P.mo s.X s.l p c rt).code]) ∧ Dm w' P K { s with X := (childR P.mo s.X s.l p c rt).X, l := (childR P.mo s.X s.l p c rt).l } (T + 1) M N ∧ But (Kw K M N) w w' := by
  obtain ⟨wh, ev, hr, ht, he⟩ := h.doc.c
  refine (rchild_any hr hv ht (by omega) p c rt hw).mono ?_
  rintro e w' ⟨rfl, ⟨wh', ev', g1, g2, g3⟩, hb⟩
  exact ⟨rfl, h.enter hb ⟨wh', ev', g1, g2, by omega⟩⟩
theorem rmay14 {w : World} {P : Par} {K : Kd} {s : Sta} {T M : Nat} {N : Nat → Prop} (h : Dm w P K s T M N) (o : Int) : Calls Tryz.prog 66 #[.pointer (some ⟨K.q, 0, none⟩), .int .i64 o] w fun e w' => e = .returned (.int .i64 (Q.may P.e P.a s.L o)) ∧ Below w.heap.size w w' := by
  obtain ⟨pa, cap, hq, _⟩ := h.q
  exact Q.rmay_any hq o
theorem radd14 {w : World} {P : Par} {K : Kd} {s : Sta} {T M : Nat} {N : Nat → Prop} (h : Dm w P K s T M N) (o : Int) (hM : M ≤ w.heap.size) (hm : Q.may P.e P.a s.L o = 0) : Calls Tryz.prog 69 #[.pointer (some ⟨K.q, 0, none⟩), .int .i64 o] w fun e w' => e = .returned (.int .i64 0) ∧ Dz w' P K { s with L := s.L ++ [o] } T N ∧ But (Kw K M N) w w' := by
  obtain ⟨pa, cap, hq, hp⟩ := h.q
  refine (Q.radd_any hq o).mono ?_
  rintro e w' ⟨pa', cap', rfl, g1, g2⟩
  unfold Q.addL at g1
  rw [if_pos hm] at g1
  rw [hm]
  exact ⟨rfl, h.count hq hp hM g2 g1⟩
theorem rsub14 {w : World} {P : Par} {K : Kd} {s : Sta} {T M : Nat} {N : Nat → Prop} (h : Dm w P K s T M N) (hM : M ≤ w.heap.size) (o n : Int) : Calls Tryz.prog 41 #[.pointer (some ⟨K.q, 0, none⟩), .int .i64 o, .int .i64 n] w fun e w' => e = .returned (.int .i64 (Q.subO s.L o n)) ∧ Dz w' P K { s with L := Q.subS s.L o n } T N ∧ But (Kw K M N) w w' := by
  obtain ⟨pa, cap, hq, hp⟩ := h.q
  refine (Q.rsub_any hq o n).mono ?_
  rintro e w' ⟨pa', cap', rfl, g1, g2⟩
  exact ⟨rfl, h.count hq hp hM g2 g1⟩
end Go.Proofs.YtgihdchgdejkhaaGreatDoor.D
namespace Go.Proofs.YtgihdchgdejkhaaGreatDoor.D
open Go.RowKit
open Go.Proofs.YtgihdchgdejkhaaGreatDoor.H (B64 Cp)
set_option linter.unusedVariables false

/-- Behind a call of the document's. -/
def DGave (w : World) (P : Par) (K : Kd) (R : Ans) (T M : Nat) (N : Nat → Prop) (e : Ending) (w' : World) : Prop :=
  e = .returned (.tuple #[cpV R.c, .int .i64 R.code]) ∧ Dz w' P K R.s (T + 1) N ∧ But (Kw K M N) w w'
theorem Dm.put {w w2 : World} {P : Par} {K : Kd} {s : Sta} {T M b : Nat} {N : Nat → Prop} (hd : Dm w2 P K s T M N) (hM : M ≤ w.heap.size) (hb : But (Kw K M N) w w2) (hl : w.heap.size ≤ b) (c : Cp) :
    Dz (((w2.setCell ⟨b, 0, none⟩ (.int .i64 c.1)).setCell ⟨b, 1, none⟩ (.int .u64 (c.2.1 : Int))).setCell ⟨b, 2, none⟩ (.int .u64 (c.2.2 : Int))) P K s T N ∧ But (Kw K M N) w (((w2.setCell ⟨b, 0, none⟩ (.int .i64 c.1)).setCell ⟨b, 1, none⟩ (.int .u64 (c.2.1 : Int))).setCell ⟨b, 2, none⟩ (.int .u64 (c.2.2 : Int))) :=
  ⟨(((hd.own (Nat.le_trans hM hl) 0 _).own (Nat.le_trans hM hl) 1 _).own (Nat.le_trans hM hl) 2 _).dz (Nat.le_trans hM (((hb.put (p := ⟨b, 0, none⟩) hl _).put (p := ⟨b, 1, none⟩) hl _).put (p := ⟨b, 2, none⟩) hl _).size), ((hb.put (p := ⟨b, 0, none⟩) hl _).put (p := ⟨b, 1, none⟩) hl _).put (p := ⟨b, 2, none⟩) hl _⟩
theorem Dz.mono {w : World} {P : Par} {K : Kd} {s : Sta} {T T' : Nat} {N : Nat → Prop} (h : Dz w P K s T N) (ht : T ≤ T') : Dz w P K s T' N := ⟨h.doc.mono ht, h.q, h.lt, h.ge⟩
/-- Behind Add the list's block is none of the caller's. -/
theorem radd14' {w : World} {P : Par} {K : Kd} {s : Sta} {T M b : Nat} {N : Nat → Prop} (h : Dm w P K s T M N) (hM : M ≤ w.heap.size) (o : Int) (hm : Q.may P.e P.a s.L o = 0) (hb : M ≤ b) (hb2 : b < w.heap.size) : Calls Tryz.prog 69 #[.pointer (some ⟨K.q, 0, none⟩), .int .i64 o] w fun e w' => e = .returned (.int .i64 0) ∧ (∀ c : Cp, Dz (((w'.setCell ⟨b, 0, none⟩ (.int .i64 c.1)).setCell ⟨b, 1, none⟩ (.int .u64 (c.2.1 : Int))).setCell ⟨b, 2, none⟩ (.int .u64 (c.2.2 : Int))) P K { s with L := s.L ++ [o] } T N) ∧ But (Kw K M N) w w' := by
  obtain ⟨pa, cap, hq, hp⟩ := h.q
  refine (Q.radd_any hq o).mono ?_
  rintro e w' ⟨pa', cap', rfl, g1, g2⟩
  unfold Q.addL at g1
  rw [if_pos hm] at g1
  rw [hm]
  obtain ⟨hdz, hbb⟩ := h.count hq hp hM g2 g1
  have hd := hdz.doc
  refine ⟨rfl, fun c => ?_, hbb⟩
  have hB : But (· = b) w' (((w'.setCell ⟨b, 0, none⟩ (.int .i64 c.1)).setCell ⟨b, 1, none⟩ (.int .u64 (c.2.1 : Int))).setCell ⟨b, 2, none⟩ (.int .u64 (c.2.2 : Int))) := (((But.refl _ _).own _ _).own _ _).own _ _
  obtain ⟨i1, i2, i3⟩ := hd.i1
  obtain ⟨j1, j2, j3, j4⟩ := hd.i2
  obtain ⟨wh, ev, hr, ht, he⟩ := hd.c
  have hlo := hq.lo
  have hlt := h.lt
  have hq9 := g1.but hB (fun e => by omega) (fun k hk e => by
    rcases g2.on k hk with g | g
    · have := hp k g; omega
    · omega)
  have hsz := hbb.size
  exact ⟨⟨hd.d.but hB (fun e => by omega) (fun h0 e => by have := i3 h0; omega), hd.cf, ⟨wh, ev, hr.but hB (fun e => by omega) (fun e => by omega), ht, he⟩, ⟨pa', cap', hq9⟩, hd.i1, hd.i2⟩, ⟨pa', cap', hq9, fun k hk => by
    rcases g2.on k hk with g | g
    · exact (hp k g).1
    · exact h.ge k g⟩, by have := hB.size; omega, fun k hk => h.ge k (by have := hB.size; omega)⟩
def docV (K : Kd) : Value := .agg #[.pointer (some ⟨K.g, 0, none⟩), .pointer (some ⟨K.r, 0, none⟩), .pointer (some ⟨K.q, 0, none⟩)]
set_option maxRecDepth 100000 in
set_option maxHeartbeats 4000000 in
/-- The document's Root. -/
theorem wroot_any {w : World} {P : Par} {K : Kd} {s : Sta} {T M : Nat} {N : Nat → Prop} (h : Dm w P K s T M N) (hM : M ≤ w.heap.size) (hf : Fit P s) (hT : T < 9223372036854775807) (o : Int) :
    Calls Tryz.prog 34 #[docV K, .int .i64 o] w (DGave w P K (rootA P s o) T M N) := by
  obtain ⟨w0, hw0⟩ : ∃ w0, w0 = (w.alloc (Obj.cells #[.pointer (some ⟨K.g, 0, none⟩), .pointer (some ⟨K.r, 0, none⟩), .pointer (some ⟨K.q, 0, none⟩)] 76)).alloc (Obj.cells #[.int .i64 0, .int .u64 0, .int .u64 0] 36) := ⟨_, rfl⟩
  have hB0 : Below w.heap.size w w0 := by rw [hw0]; exact below2 _ _ _
  have htp : Tp w0 w.heap.size K.g K.r K.q := by rw [hw0]; exact ⟨by simp [go_sem], by simp [go_sem], by simp [go_sem]⟩
  have hz : Zc w0 (w.heap.size + 1) := by rw [hw0]; exact ⟨⟨by simp [go_sem], by simp [go_sem]⟩, ⟨by simp [go_sem], by simp [go_sem]⟩, ⟨by simp [go_sem], by simp [go_sem]⟩⟩
  have hs0 : w0.heap.size = w.heap.size + 1 + 1 := by rw [hw0]; simp
  have HM : Hid (∀ U, But (Kw K M N) w0 U → Tp U w.heap.size K.g K.r K.q ∧ Zc U (w.heap.size + 1)) := fun U hU => ⟨htp.but hU (fun e => by unfold Kw at e; omega), hz.but hU (fun e => by unfold Kw at e; omega)⟩
  have HD := hid (h.later hB0)
  have HB0 := hid hB0
  have HS0 := hid hs0
  have HhM := hid hM
  obtain ⟨wh, ev, hr, ht, he⟩ := (h.later hB0).doc.c
  have HI := hid (Go.Proofs.YtgihdchgdejkhaaGreatDoor.rin_any hr hf.inv.ok o)
  obtain ⟨x0, x1, x2⟩ := htp
  clear h hB0 hz hr ht he hs0 hM
  unfold rootA docV
  by_cases hn : 0 < inN s.X s.l o
  · rw [if_pos hn]
    obtain ⟨m, hm⟩ : ∃ m : Nat, m = inN s.X s.l o := ⟨_, rfl⟩
    rw [← hm] at HI hn
    have hd : decide ((m : Int) > 0) = true := decide_eq_true (by omega)
    have hp : 0 < (m : Int) := by omega
    clear hf hm
    obtain ⟨⟨v0, f0⟩, ⟨v1, f1⟩, ⟨v2, f2⟩⟩ := (HM.out w0 (But.refl _ _)).2
    go_enter Tryz.func34, Tryz.ntmps34
    go_upto_region 1 with fail
    rw [← hw0]
    clear hw0
    go_wp2_with (first
      | (go_at_call 65; refine HI.out.mono ?_; rintro e w9 ⟨rfl, hw9⟩; obtain rfl := hw9.symm; clear hw9))
    have HQ := hid (three_set v0 v1 v2 (.int .i64 0) (.int .u64 0) (.int .u64 0))
    obtain ⟨hf1, hf2⟩ := HD.out.put (w := w) (b := w.heap.size + 1) HhM.out (But.of HB0.out) (by omega) (0, 0, 0)
    exact bodyPost_ret (v := .tuple #[.agg #[.int .i64 0, .int .u64 0, .int .u64 0], .int .i64 19]) (by simp [results, Tryz.results34, go_sem, HQ.out.1, HQ.out.2.1, HQ.out.2.2]) rfl ⟨rfl, hf1.mono (by omega), hf2⟩
  · rw [if_neg hn]
    have HRo := hid (fun Nn (hm : Q.may P.e P.a s.L o = 0) => rootR_ok (N := Nn) hf hm hn)
    have HHal := hid (half_lt (drawD_small hf s.t))
    obtain ⟨m, hm⟩ : ∃ m : Nat, m = inN s.X s.l o := ⟨_, rfl⟩
    rw [← hm] at HI hn
    have hd : decide ((m : Int) > 0) = false := decide_eq_false (by omega)
    have hp : ¬ 0 < (m : Int) := by omega
    have HMa := hid (rmay14 HD.out o)
    have HInv := hid hf.inv
    clear hf hm
    unfold tokR
    by_cases hm : Q.may P.e P.a s.L o = 0
    · rw [if_neg (by simp [hm])]
      rw [hm] at HMa
      obtain ⟨D, hDD⟩ : ∃ D, D = drawD P s.t := ⟨_, rfl⟩
      have HDr := hid (fun (U : World) (hU : Below w0.heap.size w0 U) => rdraw14 (HD.out.later hU))
      rw [← hDD] at HDr HHal
      rw [← hDD]
      clear hDD
      by_cases hD : D.2.1 = 0
      · rw [if_neg (by simp [hD])]
        rw [hD] at HDr
        have HRo2 := hid (HRo.out D.1 hm)
        have HHm := hid hm
        clear HRo hm hD
        go_enter Tryz.func34, Tryz.ntmps34
        go_upto_region 1 with fail
        rw [← hw0]
        clear hw0
        go_upto_region 6 with (first
          | (go_at_call 66; refine HMa.out.mono ?_; rintro e w2 ⟨rfl, hb2⟩; have HC2 := hid hb2; obtain ⟨z0, z1, z2⟩ := (HM.out w2 (But.of hb2)).1; clear hb2)
          | (go_at_call 65; refine HI.out.mono ?_; rintro e w9 ⟨rfl, hw9⟩; obtain rfl := hw9.symm; clear hw9))
        go_upto_region 10 with (first
          | (go_at_call 67; refine (HDr.out w2 HC2.out).mono ?_; rintro e w3 ⟨rfl, hd3, hb3⟩; have HD3 := hid hd3; have HB3 := hid ((But.of HC2.out).trans hb3); clear hd3 hb3))
        obtain ⟨w4, hw4⟩ : ∃ w4, w4 = (w3.alloc (Obj.cells #[.int .u64 (hiI D.1), .int .u64 (loI D.1)] 30)).alloc (Obj.cells #[.int .i64 o, .int .u64 (hiI D.1), .int .u64 (loI D.1)] 36) := ⟨_, rfl⟩
        have hB4 : Below w3.heap.size w3 w4 := by rw [hw4]; exact below2 _ _ _
        have hc4 : Cw w4 (w3.heap.size + 1) (cap o D.1) := by rw [hw4]; exact ⟨by simp [go_sem, cap], by simp [go_sem, cap, hiI], by simp [go_sem, cap, loI]⟩
        have hs3 : w.heap.size ≤ w3.heap.size := by have := HB3.out.size; have := HS0.out; omega
        have HY : Hid (∀ U, But (Kw K M N) w4 U → Cw U (w3.heap.size + 1) (cap o D.1)) := fun U hU => hc4.but hU (fun e => by unfold Kw at e; have := HhM.out; omega)
        have z3 : w4.cell? ⟨w3.heap.size + 1, 0, none⟩ = some (.int .i64 o) := hc4.c0
        have z4 : w4.cell? ⟨w3.heap.size + 1, 1, none⟩ = some (.int .u64 (hiI D.1)) := hc4.c1
        have z5 : w4.cell? ⟨w3.heap.size + 1, 2, none⟩ = some (.int .u64 (loI D.1)) := hc4.c2
        have HD4 := hid (HD3.out.later hB4)
        have HB4 := hid (HB3.out.call hB4)
        have HRt : Hid (Calls Tryz.prog 68 #[.pointer (some ⟨K.r, 0, none⟩), .agg #[.int .i64 o, .int .u64 (hiI D.1), .int .u64 (loI D.1)], .int .i64 31] w4 fun e w' => e = .returned (.tuple #[.int .i64 (low s.l : Int), .int .i64 0]) ∧ Dm w' P K ⟨s.X.set (low s.l) (cap o D.1, 31), s.l ++ [((low s.l : Int), -1)], s.L, D.2.2⟩ (T + 1) M N ∧ But (Kw K M N) w4 w') := by
          have := rroot14 HD4.out HInv.out hT (cap o D.1) 31 HHal.out
          rw [show rootR P.mo s.X s.l (cap o D.1) 31 = _ from HRo2.out] at this
          exact this
        obtain ⟨z6, z7, z8⟩ := (HM.out w4 HB4.out).1
        have hs4 : w.heap.size + 1 < w4.heap.size := by have := HB4.out.size; have := HS0.out; omega
        have HS4 := hid hs4
        clear hB4 hc4 hs3 hs4
        rw [← hw4]
        clear hw4 z0 z1 z2
        go_upto_region 11 with (first
          | (go_at_call 68; refine HRt.out.mono ?_; rintro e w5 ⟨rfl, hd5, hb5⟩; have HD5 := hid hd5; have HC5 := hid hb5; have HB5 := hid (HB4.out.trans hb5); clear hd5 hb5))
        obtain ⟨z9, za, zb⟩ := (HM.out w5 HB5.out).1
        have HAd := hid (radd14' (b := w.heap.size + 1) HD5.out (by have := HC5.out.size; have := HS4.out; have := HhM.out; omega) o HHm.out (by have := HhM.out; omega) (by have := HC5.out.size; have := HS4.out; omega))
        go_upto_region 12 with (first
          | (go_at_call 69; refine HAd.out.mono ?_; rintro e w6 ⟨rfl, hd6, hb6⟩; have HD6 := hid hd6; have HB6 := hid (HB5.out.trans hb6); have HC6 := hid (HC5.out.trans hb6); clear hd6 hb6; obtain ⟨u0, u1, u2⟩ := HY.out w6 HC6.out; obtain ⟨⟨v0, f0⟩, ⟨v1, f1⟩, ⟨v2, f2⟩⟩ := (HM.out w6 HB6.out).2))
        have u0' : w6.cell? ⟨w3.heap.size + 1, 0, none⟩ = some (.int .i64 o) := u0
        have u1' : w6.cell? ⟨w3.heap.size + 1, 1, none⟩ = some (.int .u64 (hiI D.1)) := u1
        have u2' : w6.cell? ⟨w3.heap.size + 1, 2, none⟩ = some (.int .u64 (loI D.1)) := u2
        clear u0 u1 u2
        go_wp2
        have HQ := hid (three_set v0 v1 v2 (.int .i64 o) (.int .u64 (hiI D.1)) (.int .u64 (loI D.1)))
        have hfin := ((((But.of HB0.out).trans HB6.out).put (p := ⟨w.heap.size + 1, 0, none⟩) (by show _ ≤ w.heap.size + 1; omega) (.int .i64 o)).put (p := ⟨w.heap.size + 1, 1, none⟩) (by show _ ≤ w.heap.size + 1; omega) (.int .u64 (hiI D.1))).put (p := ⟨w.heap.size + 1, 2, none⟩) (by show _ ≤ w.heap.size + 1; omega) (.int .u64 (loI D.1))
        exact bodyPost_ret (v := .tuple #[.agg #[.int .i64 o, .int .u64 (hiI D.1), .int .u64 (loI D.1)], .int .i64 0]) (by simp [results, Tryz.results34, go_sem, HQ.out.1, HQ.out.2.1, HQ.out.2.2]) rfl ⟨rfl, HD6.out (cap o D.1), hfin⟩
      · rw [if_pos hD]
        have hD' : (D.2.1 != 0) = true := by simpa using hD
        clear HRo hm
        go_enter Tryz.func34, Tryz.ntmps34
        go_upto_region 1 with fail
        rw [← hw0]
        clear hw0
        go_upto_region 6 with (first
          | (go_at_call 66; refine HMa.out.mono ?_; rintro e w2 ⟨rfl, hb2⟩; have HC2 := hid hb2; obtain ⟨z0, z1, z2⟩ := (HM.out w2 (But.of hb2)).1; clear hb2)
          | (go_at_call 65; refine HI.out.mono ?_; rintro e w9 ⟨rfl, hw9⟩; obtain rfl := hw9.symm; clear hw9))
        go_wp2_with (first
          | (go_at_call 67; refine (HDr.out w2 HC2.out).mono ?_; rintro e w3 ⟨rfl, hd3, hb3⟩; have HD3 := hid (hd3.later (below1 _ (.cells #[.int .u64 (hiI D.1), .int .u64 (loI D.1)] 30))); have hbw := ((But.of HC2.out).trans hb3).alloc (.cells #[.int .u64 (hiI D.1), .int .u64 (loI D.1)] 30); have HB3 := hid hbw; obtain ⟨⟨v0, f0⟩, ⟨v1, f1⟩, ⟨v2, f2⟩⟩ := (HM.out _ hbw).2; clear hd3 hb3 hbw))
        have HQ := hid (three_set v0 v1 v2 (.int .i64 0) (.int .u64 0) (.int .u64 0))
        obtain ⟨hf1, hf2⟩ := HD3.out.put (w := w) (b := w.heap.size + 1) HhM.out ((But.of HB0.out).trans HB3.out) (by omega) (0, 0, 0)
        exact bodyPost_ret (v := .tuple #[.agg #[.int .i64 0, .int .u64 0, .int .u64 0], .int .i64 D.2.1]) (by simp [results, Tryz.results34, go_sem, HQ.out.1, HQ.out.2.1, HQ.out.2.2]) rfl ⟨rfl, hf1.mono (by omega), hf2⟩
    · rw [if_pos hm]
      obtain ⟨q, hq⟩ : ∃ q, q = Q.may P.e P.a s.L o := ⟨_, rfl⟩
      rw [← hq] at HMa hm
      rw [← hq]
      have hm' : (q != 0) = true := by simpa using hm
      clear HRo hq
      go_enter Tryz.func34, Tryz.ntmps34
      go_upto_region 1 with fail
      rw [← hw0]
      clear hw0
      go_wp2_with (first
        | (go_at_call 66; refine HMa.out.mono ?_; rintro e w2 ⟨rfl, hb2⟩; have HC2 := hid hb2; obtain ⟨⟨v0, f0⟩, ⟨v1, f1⟩, ⟨v2, f2⟩⟩ := (HM.out w2 (But.of hb2)).2; clear hb2)
        | (go_at_call 65; refine HI.out.mono ?_; rintro e w9 ⟨rfl, hw9⟩; obtain rfl := hw9.symm; clear hw9))
      have HQ := hid (three_set v0 v1 v2 (.int .i64 0) (.int .u64 0) (.int .u64 0))
      obtain ⟨hf1, hf2⟩ := (HD.out.later HC2.out).put (w := w) (b := w.heap.size + 1) HhM.out (But.of (below_call HB0.out HC2.out)) (by omega) (0, 0, 0)
      exact bodyPost_ret (v := .tuple #[.agg #[.int .i64 0, .int .u64 0, .int .u64 0], .int .i64 q]) (by simp [results, Tryz.results34, go_sem, HQ.out.1, HQ.out.2.1, HQ.out.2.2]) rfl ⟨rfl, hf1.mono (by omega), hf2⟩
end Go.Proofs.YtgihdchgdejkhaaGreatDoor.D
namespace Go.Proofs.YtgihdchgdejkhaaGreatDoor.D
open Go.RowKit
open Go.Proofs.YtgihdchgdejkhaaGreatDoor.H (B64 Cp)
set_option linter.unusedVariables false

set_option maxRecDepth 100000 in
set_option maxHeartbeats 8000000 in
/-- The document's Child. -/
theorem wchild_any {w : World} {P : Par} {K : Kd} {s : Sta} {T M : Nat} {N : Nat → Prop} (h : Dm w P K s T M N) (hM : M ≤ w.heap.size) (hf : Fit P s) (hT : T < 9223372036854775807) (c : Cp) (r : Int) (hw : c.2.1 < B64 ∧ c.2.2 < B64) :
    Calls Tryz.prog 35 #[docV K, cpV c, .int .i64 r] w (DGave w P K (childA P s c r) T M N) := by
  obtain ⟨o, hi, lo⟩ := c
  obtain ⟨w0, hw0⟩ : ∃ w0, w0 = ((w.alloc (Obj.cells #[.pointer (some ⟨K.g, 0, none⟩), .pointer (some ⟨K.r, 0, none⟩), .pointer (some ⟨K.q, 0, none⟩)] 76)).alloc (Obj.cells #[.int .i64 o, .int .u64 (hi : Int), .int .u64 (lo : Int)] 36)).alloc (Obj.cells #[.int .i64 0, .int .u64 0, .int .u64 0] 36) := ⟨_, rfl⟩
  have hB0 : Below w.heap.size w w0 := by rw [hw0]; exact (below2 _ _ _).alloc (by simp; omega) _
  have htp : Tp w0 w.heap.size K.g K.r K.q := by rw [hw0]; exact ⟨by simp [go_sem], by simp [go_sem], by simp [go_sem]⟩
  have hcw : Cw w0 (w.heap.size + 1) (o, hi, lo) := by rw [hw0]; exact ⟨by simp [go_sem], by simp [go_sem], by simp [go_sem]⟩
  have hz : Zc w0 (w.heap.size + 1 + 1) := by rw [hw0]; exact ⟨⟨by simp [go_sem], by simp [go_sem]⟩, ⟨by simp [go_sem], by simp [go_sem]⟩, ⟨by simp [go_sem], by simp [go_sem]⟩⟩
  have hs0 : w0.heap.size = w.heap.size + 1 + 1 + 1 := by rw [hw0]; simp
  have HM : Hid (∀ U, But (Kw K M N) w0 U → Tp U w.heap.size K.g K.r K.q ∧ Cw U (w.heap.size + 1) (o, hi, lo) ∧ Zc U (w.heap.size + 1 + 1)) := fun U hU => ⟨htp.but hU (fun e => by unfold Kw at e; omega), hcw.but hU (fun e => by unfold Kw at e; omega), hz.but hU (fun e => by unfold Kw at e; omega)⟩
  have HD := hid (h.later hB0)
  have HB0 := hid hB0
  have HS0 := hid hs0
  have HhM := hid hM
  obtain ⟨wh, ev, hr, ht, he⟩ := (h.later hB0).doc.c
  have HF := hid (rfind_any hr hf.inv o hi lo)
  have HRf := hid hr
  obtain ⟨x0, x1, x2⟩ := htp
  obtain ⟨y0, y1, y2⟩ := hcw
  clear h hB0 hz hr ht he hs0 hM
  unfold childA docV
  by_cases hc : hasC s.X s.l (o, hi, lo) = false
  · rw [hc] at HF
    simp only [if_pos hc]
    obtain ⟨m, hm⟩ : ∃ m, m = findN s.X s.l (o, hi, lo) := ⟨_, rfl⟩
    rw [← hm] at HF
    clear hf hc hm
    go_enter Tryz.func35, Tryz.ntmps35
    go_upto_region 1 with fail
    rw [← hw0]
    clear hw0
    go_wp2_with (first
      | (go_at_call 36; refine HF.out.mono ?_; rintro e w2 ⟨rfl, hb2⟩; have HC2 := hid hb2; obtain ⟨⟨v0, f0⟩, ⟨v1, f1⟩, ⟨v2, f2⟩⟩ := (HM.out w2 (But.of hb2)).2.2; clear hb2))
    have HQ := hid (three_set v0 v1 v2 (.int .i64 0) (.int .u64 0) (.int .u64 0))
    obtain ⟨hf1, hf2⟩ := (HD.out.later HC2.out).put (w := w) (b := w.heap.size + 1 + 1) HhM.out (But.of (below_call HB0.out HC2.out)) (by omega) (0, 0, 0)
    exact bodyPost_ret (v := .tuple #[.agg #[.int .i64 0, .int .u64 0, .int .u64 0], .int .i64 3]) (by simp [results, Tryz.results35, go_sem, HQ.out.1, HQ.out.2.1, HQ.out.2.2]) rfl ⟨rfl, hf1.mono (by omega), hf2⟩
  · have hc' : hasC s.X s.l (o, hi, lo) = true := by simpa using hc
    rw [hc'] at HF
    simp only [if_neg hc]
    obtain ⟨hfn, hft⟩ := found hf.inv hc'
    have HA := hid (fun (U : World) (hU : Below w0.heap.size w0 U) => rat_any (HRf.out.later hU) hf.inv.ok.range (findN s.X s.l (o, hi, lo)))
    unfold tokV at HA
    simp only [if_pos hfn, hft] at HA
    have HCo := hid (fun Nn (hm : Q.may P.e P.a s.L o = 0) (hn : hasC s.X s.l (cap o Nn) = false) (hp : partB r (rgt s (o, hi, lo)) = true) => childR_ok (N := Nn) (r := r) hf hm hn hfn (by unfold ob; rw [hft]) hp)
    have HNw := hid (fun (hd : (childD P s o).2.1 = 0) => childD_new hf hd)
    have HHal : Hid ((childD P s o).1 / B64 < B64 ∧ (childD P s o).1 % B64 < B64) := half_lt (drawR_small hf.cs)
    have HInv := hid hf.inv
    obtain ⟨q, hq⟩ : ∃ q, q = rgt s (o, hi, lo) := ⟨_, rfl⟩
    rw [← hq] at HCo
    rw [← hq]
    unfold rgt at hq
    rw [← hq] at HA
    obtain ⟨pp, hpp⟩ : ∃ pp, pp = par s.l (findN s.X s.l (o, hi, lo)) := ⟨_, rfl⟩
    rw [← hpp] at HA
    obtain ⟨m, hm⟩ : ∃ m, m = findN s.X s.l (o, hi, lo) := ⟨_, rfl⟩
    rw [← hm] at HF HA HCo
    rw [← hm]
    have HP := hid (rpart03 r q)
    have HHs := hid (rpart03 4 q)
    unfold tokA at HA
    clear hf hc hc' hm hq hpp hft hfn HRf
    cases hp4 : partB 4 q with
    | false =>
      rw [hp4] at HHs
      simp only [true_or, if_true]
      clear hp4
      go_enter Tryz.func35, Tryz.ntmps35
      go_upto_region 1 with fail
      rw [← hw0]
      clear hw0
      go_upto_region 4 with (first
        | (go_at_call 36; refine HF.out.mono ?_; rintro e w2 ⟨rfl, hb2⟩; have HC2 := hid hb2; obtain ⟨x3, x4, x5⟩ := (HM.out w2 (But.of hb2)).1; clear hb2))
      go_wp2_with (first
        | (go_at_call 71; refine (HHs.out _).mono ?_; rintro e w9 ⟨rfl, hw9⟩; obtain rfl := hw9.symm; clear hw9)
        | (go_at_call 70; refine (HA.out w2 HC2.out).mono ?_; rintro e w3 ⟨rfl, hb3⟩; have HC4 := hid ((below_call HC2.out hb3).alloc (below_call HC2.out hb3).size (.cells #[.int .i64 o, .int .u64 (hi : Int), .int .u64 (lo : Int), .int .i64 q, .int .i64 pp] 55)); obtain ⟨⟨k0, k1, k2⟩, ⟨kc0, _, _⟩, ⟨v0, f0⟩, ⟨v1, f1⟩, ⟨v2, f2⟩⟩ := HM.out _ (But.of HC4.out); clear hb3))
      have HQ := hid (three_set v0 v1 v2 (.int .i64 0) (.int .u64 0) (.int .u64 0))
      obtain ⟨hf1, hf2⟩ := (HD.out.later HC4.out).put (w := w) (b := w.heap.size + 1 + 1) HhM.out (But.of (below_call HB0.out HC4.out)) (by omega) (0, 0, 0)
      exact bodyPost_ret (v := .tuple #[.agg #[.int .i64 0, .int .u64 0, .int .u64 0], .int .i64 4]) (by simp [results, Tryz.results35, go_sem, HQ.out.1, HQ.out.2.1, HQ.out.2.2]) rfl ⟨rfl, hf1.mono (by omega), hf2⟩
    | true =>
      rw [hp4] at HHs
      clear hp4
      cases hpr : partB r q with
      | false =>
        rw [hpr] at HP
        simp only [or_true, if_true]
        clear hpr
        go_enter Tryz.func35, Tryz.ntmps35
        go_upto_region 1 with fail
        rw [← hw0]
        clear hw0
        go_upto_region 4 with (first
          | (go_at_call 36; refine HF.out.mono ?_; rintro e w2 ⟨rfl, hb2⟩; have HC2 := hid hb2; obtain ⟨x3, x4, x5⟩ := (HM.out w2 (But.of hb2)).1; clear hb2))
        go_wp2_with (first
          | (have hq := MK; clear hq; go_at_call 71; refine (HP.out _).mono ?_; rintro e w9 ⟨rfl, hw9⟩; obtain rfl := hw9.symm; clear hw9)
          | (go_at_call 71; refine (HHs.out _).mono ?_; rintro e w9 ⟨rfl, hw9⟩; obtain rfl := hw9.symm; clear hw9; obtain ⟨MK, _⟩ : ∃ m : Nat, m = 0 := ⟨0, rfl⟩)
          | (go_at_call 70; refine (HA.out w2 HC2.out).mono ?_; rintro e w3 ⟨rfl, hb3⟩; have HC4 := hid ((below_call HC2.out hb3).alloc (below_call HC2.out hb3).size (.cells #[.int .i64 o, .int .u64 (hi : Int), .int .u64 (lo : Int), .int .i64 q, .int .i64 pp] 55)); obtain ⟨⟨k0, k1, k2⟩, ⟨kc0, _, _⟩, ⟨v0, f0⟩, ⟨v1, f1⟩, ⟨v2, f2⟩⟩ := HM.out _ (But.of HC4.out); clear hb3))
        have HQ := hid (three_set v0 v1 v2 (.int .i64 0) (.int .u64 0) (.int .u64 0))
        obtain ⟨hf1, hf2⟩ := (HD.out.later HC4.out).put (w := w) (b := w.heap.size + 1 + 1) HhM.out (But.of (below_call HB0.out HC4.out)) (by omega) (0, 0, 0)
        exact bodyPost_ret (v := .tuple #[.agg #[.int .i64 0, .int .u64 0, .int .u64 0], .int .i64 4]) (by simp [results, Tryz.results35, go_sem, HQ.out.1, HQ.out.2.1, HQ.out.2.2]) rfl ⟨rfl, hf1.mono (by omega), hf2⟩
      | true =>
        rw [hpr] at HP
        simp only [Bool.true_eq_false, or_false, if_false]
        have hpt := hpr
        clear hpr
        unfold tokR
        by_cases hm : Q.may P.e P.a s.L o = 0
        · rw [if_neg (by simp [hm])]
          have HMa := hid (fun (U : World) (hU : Below w0.heap.size w0 U) => rmay14 (HD.out.later hU) o)
          rw [hm] at HMa
          obtain ⟨D, hDD⟩ : ∃ D, D = childD P s o := ⟨_, rfl⟩
          have HDr := hid (fun (U : World) (hU : Below w0.heap.size w0 U) => riof14 (HD.out.later hU) HInv.out o)
          rw [← hDD] at HDr HHal HNw
          simp only [← hDD]
          clear hDD
          by_cases hD : D.2.1 = 0
          · rw [if_neg (by simp [hD])]
            rw [hD] at HDr
            have HRo2 := hid (HCo.out D.1 hm (HNw.out hD) hpt)
            have HHm := hid hm
            clear HCo HNw hm hD hpt
            go_enter Tryz.func35, Tryz.ntmps35
            go_upto_region 1 with fail
            rw [← hw0]
            clear hw0
            go_upto_region 4 with (first
              | (go_at_call 36; refine HF.out.mono ?_; rintro e w2 ⟨rfl, hb2⟩; have HC2 := hid hb2; obtain ⟨x3, x4, x5⟩ := (HM.out w2 (But.of hb2)).1; clear hb2))
            go_upto_region 7 with (first
              | (have hq := MK; clear hq; go_at_call 71; refine (HP.out _).mono ?_; rintro e w9 ⟨rfl, hw9⟩; obtain rfl := hw9.symm; clear hw9)
              | (go_at_call 71; refine (HHs.out _).mono ?_; rintro e w9 ⟨rfl, hw9⟩; obtain rfl := hw9.symm; clear hw9; obtain ⟨MK, _⟩ : ∃ m : Nat, m = 0 := ⟨0, rfl⟩)
              | (go_at_call 70; refine (HA.out w2 HC2.out).mono ?_; rintro e w3 ⟨rfl, hb3⟩; have HC4 := hid ((below_call HC2.out hb3).alloc (below_call HC2.out hb3).size (.cells #[.int .i64 o, .int .u64 (hi : Int), .int .u64 (lo : Int), .int .i64 q, .int .i64 pp] 55)); obtain ⟨⟨k0, k1, k2⟩, ⟨kc0, _, _⟩, ⟨v0, f0⟩, ⟨v1, f1⟩, ⟨v2, f2⟩⟩ := HM.out _ (But.of HC4.out); clear hb3))
            clear v0 v1 v2 f0 f1 f2
            go_upto_region 10 with (first
              | (go_at_call 66; refine (HMa.out _ HC4.out).mono ?_; rintro e w5 ⟨rfl, hb5⟩; have HC5 := hid (below_call HC4.out hb5); obtain ⟨z0, z1, z2⟩ := (HM.out w5 (But.of HC5.out)).1; obtain ⟨zc0, _, _⟩ := (HM.out w5 (But.of HC5.out)).2.1; clear hb5))
            go_upto_region 13 with (first
              | (go_at_call 72; refine (HDr.out w5 HC5.out).mono ?_; rintro e w6 ⟨rfl, hd3, hb3⟩; have HD3 := hid hd3; have HB3 := hid ((But.of HC5.out).trans hb3); clear hd3 hb3))
            have zc1 : (w6.alloc (Obj.cells #[.int .u64 (hiI D.1), .int .u64 (loI D.1)] 30)).cell? ⟨w.heap.size + 1, 0, none⟩ = some (.int .i64 o) := (HM.out _ (HB3.out.alloc _)).2.1.c0
            go_upto_region 14 with fail
            obtain ⟨w7, hw7⟩ : ∃ w7, w7 = (w6.alloc (Obj.cells #[.int .u64 (hiI D.1), .int .u64 (loI D.1)] 30)).alloc (Obj.cells #[.int .i64 o, .int .u64 (hiI D.1), .int .u64 (loI D.1)] 36) := ⟨_, rfl⟩
            have hB4 : Below w6.heap.size w6 w7 := by rw [hw7]; exact below2 _ _ _
            have hc4 : Cw w7 (w6.heap.size + 1) (cap o D.1) := by rw [hw7]; exact ⟨by simp [go_sem, cap], by simp [go_sem, cap, hiI], by simp [go_sem, cap, loI]⟩
            have hs3 : w.heap.size ≤ w6.heap.size := by have := HB3.out.size; have := HS0.out; omega
            have HY : Hid (∀ U, But (Kw K M N) w7 U → Cw U (w6.heap.size + 1) (cap o D.1)) := fun U hU => hc4.but hU (fun e => by unfold Kw at e; have := HhM.out; omega)
            have z3 : w7.cell? ⟨w6.heap.size + 1, 0, none⟩ = some (.int .i64 o) := hc4.c0
            have z4 : w7.cell? ⟨w6.heap.size + 1, 1, none⟩ = some (.int .u64 (hiI D.1)) := hc4.c1
            have z5 : w7.cell? ⟨w6.heap.size + 1, 2, none⟩ = some (.int .u64 (loI D.1)) := hc4.c2
            have HD4 := hid (HD3.out.later hB4)
            have HB4 := hid (HB3.out.call hB4)
            have HRt : Hid (Calls Tryz.prog 73 #[.pointer (some ⟨K.r, 0, none⟩), .int .i64 m, .agg #[.int .i64 o, .int .u64 (hiI D.1), .int .u64 (loI D.1)], .int .i64 r] w7 fun e w' => e = .returned (.tuple #[.int .i64 (low s.l : Int), .int .i64 0]) ∧ Dm w' P K ⟨s.X.set (low s.l) (cap o D.1, r), s.l ++ [((low s.l : Int), m)], s.L, D.2.2⟩ (T + 1) M N ∧ But (Kw K M N) w7 w') := by
              have := rchild14 HD4.out HInv.out hT m (cap o D.1) r HHal.out
              rw [show childR P.mo s.X s.l m (cap o D.1) r = _ from HRo2.out] at this
              exact this
            obtain ⟨z6, z7, z8⟩ := (HM.out w7 HB4.out).1
            have hs4 : w.heap.size + 1 + 1 < w7.heap.size := by have := HB4.out.size; have := HS0.out; omega
            have HS4 := hid hs4
            clear hB4 hc4 hs3 hs4 zc1
            rw [← hw7]
            clear hw7 z0 z1 z2 zc0
            go_upto_region 15 with (first
              | (go_at_call 73; refine HRt.out.mono ?_; rintro e w8 ⟨rfl, hd5, hb5⟩; have HD5 := hid hd5; have HC5 := hid hb5; have HB5 := hid (HB4.out.trans hb5); clear hd5 hb5))
            obtain ⟨⟨z9, za, zb⟩, ⟨zc0, _, _⟩, _⟩ := HM.out w8 HB5.out
            have HAd := hid (radd14' (b := w.heap.size + 1 + 1) HD5.out (by have := HC5.out.size; have := HS4.out; have := HhM.out; omega) o HHm.out (by have := HhM.out; omega) (by have := HC5.out.size; have := HS4.out; omega))
            go_upto_region 16 with (first
              | (go_at_call 69; refine HAd.out.mono ?_; rintro e wa ⟨rfl, hd6, hb6⟩; have HD6 := hid hd6; have HB6 := hid (HB5.out.trans hb6); have HC6 := hid (HC5.out.trans hb6); clear hd6 hb6; obtain ⟨u0, u1, u2⟩ := HY.out wa HC6.out; obtain ⟨⟨v0, f0⟩, ⟨v1, f1⟩, ⟨v2, f2⟩⟩ := (HM.out wa HB6.out).2.2))
            have u0' : wa.cell? ⟨w6.heap.size + 1, 0, none⟩ = some (.int .i64 o) := u0
            have u1' : wa.cell? ⟨w6.heap.size + 1, 1, none⟩ = some (.int .u64 (hiI D.1)) := u1
            have u2' : wa.cell? ⟨w6.heap.size + 1, 2, none⟩ = some (.int .u64 (loI D.1)) := u2
            clear u0 u1 u2
            go_wp2
            have HQ := hid (three_set v0 v1 v2 (.int .i64 o) (.int .u64 (hiI D.1)) (.int .u64 (loI D.1)))
            have hfin := ((((But.of HB0.out).trans HB6.out).put (p := ⟨w.heap.size + 1 + 1, 0, none⟩) (by show _ ≤ w.heap.size + 1 + 1; omega) (.int .i64 o)).put (p := ⟨w.heap.size + 1 + 1, 1, none⟩) (by show _ ≤ w.heap.size + 1 + 1; omega) (.int .u64 (hiI D.1))).put (p := ⟨w.heap.size + 1 + 1, 2, none⟩) (by show _ ≤ w.heap.size + 1 + 1; omega) (.int .u64 (loI D.1))
            exact bodyPost_ret (v := .tuple #[.agg #[.int .i64 o, .int .u64 (hiI D.1), .int .u64 (loI D.1)], .int .i64 0]) (by simp [results, Tryz.results35, go_sem, HQ.out.1, HQ.out.2.1, HQ.out.2.2]) rfl ⟨rfl, HD6.out (cap o D.1), hfin⟩
          · rw [if_pos hD]
            have hD' : (D.2.1 != 0) = true := by simpa using hD
            clear HCo HNw hm hpt
            go_enter Tryz.func35, Tryz.ntmps35
            go_upto_region 1 with fail
            rw [← hw0]
            clear hw0
            go_upto_region 4 with (first
              | (go_at_call 36; refine HF.out.mono ?_; rintro e w2 ⟨rfl, hb2⟩; have HC2 := hid hb2; obtain ⟨x3, x4, x5⟩ := (HM.out w2 (But.of hb2)).1; clear hb2))
            go_upto_region 7 with (first
              | (have hq := MK; clear hq; go_at_call 71; refine (HP.out _).mono ?_; rintro e w9 ⟨rfl, hw9⟩; obtain rfl := hw9.symm; clear hw9)
              | (go_at_call 71; refine (HHs.out _).mono ?_; rintro e w9 ⟨rfl, hw9⟩; obtain rfl := hw9.symm; clear hw9; obtain ⟨MK, _⟩ : ∃ m : Nat, m = 0 := ⟨0, rfl⟩)
              | (go_at_call 70; refine (HA.out w2 HC2.out).mono ?_; rintro e w3 ⟨rfl, hb3⟩; have HC4 := hid ((below_call HC2.out hb3).alloc (below_call HC2.out hb3).size (.cells #[.int .i64 o, .int .u64 (hi : Int), .int .u64 (lo : Int), .int .i64 q, .int .i64 pp] 55)); obtain ⟨⟨k0, k1, k2⟩, ⟨kc0, _, _⟩, ⟨v0, f0⟩, ⟨v1, f1⟩, ⟨v2, f2⟩⟩ := HM.out _ (But.of HC4.out); clear hb3))
            clear v0 v1 v2 f0 f1 f2
            go_upto_region 10 with (first
              | (go_at_call 66; refine (HMa.out _ HC4.out).mono ?_; rintro e w5 ⟨rfl, hb5⟩; have HC5 := hid (below_call HC4.out hb5); obtain ⟨z0, z1, z2⟩ := (HM.out w5 (But.of HC5.out)).1; obtain ⟨zc0, _, _⟩ := (HM.out w5 (But.of HC5.out)).2.1; clear hb5))
            go_wp2_with (first
              | (go_at_call 72; refine (HDr.out w5 HC5.out).mono ?_; rintro e w6 ⟨rfl, hd3, hb3⟩; have HD3 := hid (hd3.later (below1 _ (.cells #[.int .u64 (hiI D.1), .int .u64 (loI D.1)] 30))); have hbw := ((But.of HC5.out).trans hb3).alloc (.cells #[.int .u64 (hiI D.1), .int .u64 (loI D.1)] 30); have HB3 := hid hbw; obtain ⟨⟨v0, f0⟩, ⟨v1, f1⟩, ⟨v2, f2⟩⟩ := (HM.out _ hbw).2.2; clear hd3 hb3 hbw))
            have HQ := hid (three_set v0 v1 v2 (.int .i64 0) (.int .u64 0) (.int .u64 0))
            obtain ⟨hf1, hf2⟩ := HD3.out.put (w := w) (b := w.heap.size + 1 + 1) HhM.out ((But.of HB0.out).trans HB3.out) (by omega) (0, 0, 0)
            exact bodyPost_ret (v := .tuple #[.agg #[.int .i64 0, .int .u64 0, .int .u64 0], .int .i64 D.2.1]) (by simp [results, Tryz.results35, go_sem, HQ.out.1, HQ.out.2.1, HQ.out.2.2]) rfl ⟨rfl, hf1.mono (by omega), hf2⟩
        · rw [if_pos hm]
          have HMa := hid (fun (U : World) (hU : Below w0.heap.size w0 U) => rmay14 (HD.out.later hU) o)
          obtain ⟨qm, hqm⟩ : ∃ qm, qm = Q.may P.e P.a s.L o := ⟨_, rfl⟩
          rw [← hqm] at HMa hm
          simp only [← hqm]
          have hm' : (qm != 0) = true := by simpa using hm
          clear HCo HNw hqm hpt
          go_enter Tryz.func35, Tryz.ntmps35
          go_upto_region 1 with fail
          rw [← hw0]
          clear hw0
          go_upto_region 4 with (first
            | (go_at_call 36; refine HF.out.mono ?_; rintro e w2 ⟨rfl, hb2⟩; have HC2 := hid hb2; obtain ⟨x3, x4, x5⟩ := (HM.out w2 (But.of hb2)).1; clear hb2))
          go_upto_region 7 with (first
            | (have hq := MK; clear hq; go_at_call 71; refine (HP.out _).mono ?_; rintro e w9 ⟨rfl, hw9⟩; obtain rfl := hw9.symm; clear hw9)
            | (go_at_call 71; refine (HHs.out _).mono ?_; rintro e w9 ⟨rfl, hw9⟩; obtain rfl := hw9.symm; clear hw9; obtain ⟨MK, _⟩ : ∃ m : Nat, m = 0 := ⟨0, rfl⟩)
            | (go_at_call 70; refine (HA.out w2 HC2.out).mono ?_; rintro e w3 ⟨rfl, hb3⟩; have HC4 := hid ((below_call HC2.out hb3).alloc (below_call HC2.out hb3).size (.cells #[.int .i64 o, .int .u64 (hi : Int), .int .u64 (lo : Int), .int .i64 q, .int .i64 pp] 55)); obtain ⟨⟨k0, k1, k2⟩, ⟨kc0, _, _⟩, ⟨v0, f0⟩, ⟨v1, f1⟩, ⟨v2, f2⟩⟩ := HM.out _ (But.of HC4.out); clear hb3))
          clear v0 v1 v2 f0 f1 f2
          go_wp2_with (first
            | (go_at_call 66; refine (HMa.out _ HC4.out).mono ?_; rintro e w5 ⟨rfl, hb5⟩; have HC5 := hid (below_call HC4.out hb5); obtain ⟨⟨v0, f0⟩, ⟨v1, f1⟩, ⟨v2, f2⟩⟩ := (HM.out w5 (But.of HC5.out)).2.2; clear hb5))
          have HQ := hid (three_set v0 v1 v2 (.int .i64 0) (.int .u64 0) (.int .u64 0))
          obtain ⟨hf1, hf2⟩ := (HD.out.later HC5.out).put (w := w) (b := w.heap.size + 1 + 1) HhM.out (But.of (below_call HB0.out HC5.out)) (by omega) (0, 0, 0)
          exact bodyPost_ret (v := .tuple #[.agg #[.int .i64 0, .int .u64 0, .int .u64 0], .int .i64 qm]) (by simp [results, Tryz.results35, go_sem, HQ.out.1, HQ.out.2.1, HQ.out.2.2]) rfl ⟨rfl, hf1.mono (by omega), hf2⟩
end Go.Proofs.YtgihdchgdejkhaaGreatDoor.D
