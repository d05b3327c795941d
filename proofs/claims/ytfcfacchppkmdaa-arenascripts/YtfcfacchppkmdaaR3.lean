import Derived.Test.YtfcfacchppkmdaaR2
namespace Go.Proofs.Ytfcfacchppkmdaa
open Go.RowKit
set_option linter.unusedVariables false
set_option linter.unusedSimpArgs false

def RG1 (w : World) (n : Nat) (t : Nat → Bool) (l : List Int) (v : Value) (w' : World) : Prop := ∃ (i k : Nat), v = .int .i64 (i : Int) ∧ i ≤ l.length ∧ gOk n t (l.take i) ∧ w' = w.drewN k
def RG2 (w : World) (l : List Int) (i : Nat) (x : Int) (v : Value) (w' : World) : Prop := ∃ (j k : Nat), v = .int .i64 (j : Int) ∧ j ≤ i ∧ (∀ q (h : q < l.length), q < j → l[q] ≠ x) ∧ w' = w.drewN k
def RG3 (w : World) (r rb n : Nat) (t : Nat → Bool) (B : Nat → Nat → Nat) (l : List Int) (v : Value) (w' : World) : Prop := ∃ i : Nat, v = .int .i64 (i : Int) ∧ i ≤ l.length ∧ Ref w' r rb n (gT t (l.take i)) B ∧ But (· = rb) w w'
theorem gOk_dup {n : Nat} {t : Nat → Bool} {l : List Int} {i j : Nat} (hi : i < l.length) (hj : j < i) (h : l[j]'(by omega) = l[i]) : ¬ gOk n t l := fun hg => by
  have := List.pairwise_iff_getElem.1 hg.2 j i (by omega) hi hj
  exact this h
theorem gOk_step {n : Nat} {t : Nat → Bool} {l : List Int} {i : Nat} (hi : i < l.length) (hb : (thr n l[i] && t l[i].toNat) = true) (hd : ∀ q (h : q < l.length), q < i → l[q] ≠ l[i]) (hg : gOk n t (l.take i)) : gOk n t (l.take (i + 1)) := by
  rw [Bool.and_eq_true] at hb
  have h1 := hb.1
  obtain ⟨k, hk⟩ : ∃ k : Nat, l[i] = (k : Int) := ⟨l[i].toNat, by simp [thr] at h1; omega⟩
  refine gOk_next hi hk (by rw [hk] at h1; simp [thr] at h1; omega) ?_ hg
  have h2 := hb.2
  rw [hk, Int.toNat_natCast] at h2
  have hn : ¬ (k : Int) ∈ l.take i := fun hm => by
    obtain ⟨q, hq, e⟩ := List.getElem_of_mem hm
    rw [List.length_take] at hq
    rw [List.getElem_take] at e
    exact hd q (by omega) (by omega) (by rw [e, hk])
  simp [gT, h2, hn]
theorem Ref.off {w : World} {r rb n : Nat} {t u : Nat → Bool} {B : Nat → Nat → Nat} {k : Nat} {b : Bool} (h : Ref w r rb n t B) (hk : k < n) (hu : ∀ i, u i = if i = k then b else t i) : Ref (w.setCell ⟨rb, k * 65, none⟩ (.bool b)) r rb n u B := by
  have hne := h.ne
  refine ⟨h.ne, h.le, ?_, fun i hi => ?_, fun i j hi hj => (h.byte i j hi hj).other (fun e => by have := congrArg Addr.off e; simp at this; omega), by simpa using h.lt, fun i hi => ?_, h.small⟩
  · rw [World.cell?_setCell_other _ _ _ _ (fun e => hne (congrArg Addr.block e).symm)]
    exact h.head
  · rw [hu i]
    by_cases e : i = k
    · subst e
      rw [if_pos rfl]
      exact (h.on i hi).put
    · rw [if_neg e]
      exact (h.on i hi).other (fun e2 => e (by have := congrArg Addr.off e2; simp at this; omega))
  · rw [hu i] at hi
    split at hi
    · omega
    · exact h.only i hi
set_option maxRecDepth 100000 in
set_option maxHeartbeats 1000000 in
theorem rgive_any (r rb n : Nat) (t : Nat → Bool) (B : Nat → Nat → Nat) (a : Option Addr) (m cap : Nat) (l : List Int) (w : World) (h : Ref w r rb n t B) (hR : Row w a m cap (ints l)) (hm63 : m < 9223372036854775807) (hap : 0 < m → ∀ k, Blk a k → k ≠ rb) :
    Calls Try.prog 30 #[.pointer (some ⟨r, 0, none⟩), .slice a m cap] w fun e w' => (gOk n t l ∧ e = .returned (.int .i64 0) ∧ Ref w' r rb n (gT t l) B ∧ But (· = rb) w w') ∨ (¬ gOk n t l ∧ e = .returned (.int .i64 20) ∧ Below w.heap.size w w') := by
  have H := hid h
  have HR := hid hR
  have hlen : l.length = m := by have := hR.len; rwa [ints_length] at this
  have HAP := hid hap
  have hn := h.le
  clear h hR hap
  go_enter Try.func30, Try.ntmps30
  go_upto_region 2 with fail
  go_loopw [5] (RG1 w n t l) (fun k _ => m - (intOf k).toNat)
  case atStart => exact ⟨0, 0, rfl, Nat.zero_le _, ⟨fun x hx => by simp at hx, by simp⟩, rfl⟩
  case round =>
    obtain ⟨i, k, rfl, hi, hok, rfl⟩ := hrel
    have HOK := hid hok
    clear hok
    obtain ⟨w1, hw1⟩ : ∃ w1, w1 = w.drewN k := ⟨_, rfl⟩
    have hB1 : Below w.heap.size w w1 := by rw [hw1]; exact below_drewN (Below.refl _ _) k
    rw [← hw1]
    have HW1 := hid hw1
    have HB1 := hid hB1
    have H1 := hid (H.out.later hB1)
    have HR1 := hid (HR.out.later hB1)
    clear hw1 hB1
    by_cases hlt : i < m
    · have hd : decide ((i : Int) < (m : Int)) = true := decide_eq_true (by omega)
      have hil : i < l.length := by omega
      obtain ⟨b, o, rfl, hc⟩ := HR1.out.plain (by omega)
      have y := hc i _ (ints_get l i hil)
      obtain ⟨x, hx⟩ : ∃ x, x = l[i] := ⟨_, rfl⟩
      rw [← hx] at y
      have HX := hid hx
      have HC := hid hc
      clear hx hc
      cases hb : (thr n x && t x.toNat) with
      | false =>
        go_wp2_with (first | (go_at_call 35; refine (ris_any r rb n t B x _ H1.out).mono ?_; rintro e w2 ⟨rfl, rfl⟩; rw [hb]))
        go_ret
        refine .inr ⟨fun hg => ?_, rfl, HB1.out⟩
        have := hg.1 _ (List.getElem_mem hil)
        rw [← HX.out] at this
        rw [this.1, this.2] at hb
        cases hb
      | true =>
        go_upto_region 7 with (first | (go_at_call 35; refine (ris_any r rb n t B x _ H1.out).mono ?_; rintro e w2 ⟨rfl, hw⟩; obtain rfl := hw.symm; rw [hb]))
        go_loopw [6] (RG2 w1 l i x) (fun k _ => i - (intOf k).toNat)
        case atStart => exact ⟨0, 0, rfl, Nat.zero_le _, fun q _ h => by omega, rfl⟩
        case round =>
          obtain ⟨j, k2, rfl, hj, hdis, rfl⟩ := hrel
          have HD := hid hdis
          clear hdis
          by_cases hlt2 : j < i
          · have hd2 : decide ((j : Int) < (i : Int)) = true := decide_eq_true (by omega)
            have hjl : j < l.length := by omega
            have z := HC.out j _ (ints_get l j hjl)
            obtain ⟨v, hv⟩ : ∃ v, v = l[j] := ⟨_, rfl⟩
            rw [← hv] at z
            have HV := hid hv
            have hi1 : (i : Int) < (m : Int) := by omega
            have hj1 : (j : Int) < (m : Int) := by omega
            have hi0 : (0 : Int) ≤ (i : Int) := by omega
            have hj0 : (0 : Int) ≤ (j : Int) := by omega
            clear hv
            by_cases hvx : v = x
            · have he : (v == x) = true := by simp [hvx]
              go_upto_region 9 with fail
              go_quiet (fail)
              go_wp2
              go_ret
              exact .inr ⟨gOk_dup hil hlt2 (by rw [← HV.out, ← HX.out]; exact hvx), rfl, below_drewN (below_drewN HB1.out _) _⟩
            · have he : (v == x) = false := by simp [hvx]
              go_upto_region 9 with fail
              go_quiet (fail)
              go_wp2
              refine ⟨⟨j + 1, k2 + nq, rfl, by omega, fun q hq hqj => ?_, rfl⟩, by simp [intOf]; omega⟩
              by_cases e : q = j
              · subst e; rw [← HV.out]; exact hvx
              · exact HD.out q hq (by omega)
          · obtain rfl : i = j := by omega
            have hd2 : decide ((i : Int) < (i : Int)) = false := by simp
            have HN := hid (gOk_step (t := t) hil (by rw [← HX.out]; exact hb) (fun q h1 h2 => by rw [← HX.out]; exact HD.out q h1 h2) HOK.out)
            go_wp2
            exact ⟨⟨i + 1, k + k2, rfl, by omega, HN.out, by rw [HW1.out]; simp⟩, by simp [intOf]; omega⟩
    · obtain rfl : m = i := by omega
      have hd : decide ((m : Int) < (m : Int)) = false := by simp
      have e0 : l.take m = l := List.take_of_length_le (by omega)
      rw [e0] at HOK
      go_upto_region 12 with fail
      go_loopw [7] (RG3 w1 r rb n t B l) (fun k _ => m - (intOf k).toNat)
      case atStart => exact ⟨0, rfl, Nat.zero_le _, by
        have e : gT t (l.take 0) = t := by funext j; simp [gT]
        rw [e]; exact H1.out, But.refl _ _⟩
      case round =>
        obtain ⟨j, rfl, hj, hA, hB⟩ := hrel
        have HA := hid hA
        have HB := hid hB
        clear hA hB
        by_cases hlt2 : j < m
        · have hd2 : decide ((j : Int) < (m : Int)) = true := decide_eq_true (by omega)
          have hjl : j < l.length := by omega
          obtain ⟨b, o, rfl, hc⟩ := HR1.out.plain (by omega)
          have hbn : b ≠ rb := HAP.out (by omega) b ⟨_, rfl, rfl⟩
          have y := cell_but HB.out (hc j _ (ints_get l j hjl)) hbn
          obtain ⟨hq1, hq2⟩ := HOK.out.1 _ (List.getElem_mem hjl)
          obtain ⟨q, hq⟩ : ∃ q : Nat, l[j] = (q : Int) := ⟨l[j].toNat, by simp [thr] at hq1; omega⟩
          rw [hq] at y hq1 hq2
          have hqn : q < n := by simp [thr] at hq1; omega
          have x := HA.out.head
          have z := HA.out.on q hqn
          have z1 := z.1
          have z2 := z.2
          have HA2 := hid (HA.out.off (b := false) hqn (gT_next (t := t) hjl hq))
          have HB2 := hid (HB.out.setCell (p := ⟨rb, q * 65, none⟩) (show rb = rb from rfl) (.bool false))
          have hj1 : (j : Int) < (m : Int) := by omega
          have hj0 : (0 : Int) ≤ (j : Int) := by omega
          have hqi : (q : Int) < (n : Int) := by omega
          have hq0 : (0 : Int) ≤ (q : Int) := by omega
          clear hc hq hq1 hq2 z
          go_upto_region 14 with fail
          go_region
          go_wp2
          exact ⟨⟨j + 1, rfl, by omega, HA2.out.later (Below.refl _ _).drew, HB2.out.call (Below.refl _ _).drew⟩, by simp [intOf]; omega⟩
        · obtain rfl : m = j := by omega
          have hd2 : decide ((m : Int) < (m : Int)) = false := by simp
          rw [e0] at HA
          go_wp2
          go_ret
          exact .inl ⟨HOK.out, rfl, HA.out, (But.of HB1.out).trans HB.out⟩
theorem pgL_succ (B : Nat → Nat → Nat) (p off m : Nat) : u8s (pgL B p off (m + 1)) = u8s (pgL B p off m) ++ [.int .u8 ((B p (off + m) : Nat) : Int)] := by simp [u8s, pgL, List.range_succ]
def RRel (w : World) (B : Nat → Nat → Nat) (p off m : Nat) (s v : Value) (w' : World) : Prop :=
  ∃ (i : Nat) (a : Option Addr) (cap : Nat), s = .slice a i cap ∧ v = .int .i64 (i : Int) ∧ i ≤ m ∧ Own w' w.heap.size 5 a i cap (u8s (pgL B p off i)) ∧ Below w.heap.size w w'
set_option maxRecDepth 100000 in
set_option maxHeartbeats 1000000 in
theorem rread_ok (r rb n : Nat) (t : Nat → Bool) (B : Nat → Nat → Nat) (p off m : Nat) (w : World) (h : Ref w r rb n t B) (hp : t p = true) (ho : off + m ≤ 64) :
    Calls Try.prog 31 #[.pointer (some ⟨r, 0, none⟩), .int .i64 (p : Int), .int .i64 (off : Int), .int .i64 (m : Int)] w fun e w' => ∃ a cap, e = .returned (.tuple #[.slice a m cap, .int .i64 0]) ∧ Own w' w.heap.size 5 a m cap (u8s (pgL B p off m)) ∧ Below w.heap.size w w' := by
  have hpn := h.only p hp
  have HE := hid (lookE_zero hp hpn ho)
  have H := hid h
  clear h
  go_enter Try.func31, Try.ntmps31
  go_upto_region 6 with (first | (go_at_call 36; refine (rplace_any r rb n t B (p : Int) (off : Int) (m : Int) _ H.out).mono ?_; rintro e w1 ⟨rfl, hw⟩; obtain rfl := hw.symm; rw [HE.out]))
  go_loopw [11, 12] (RRel w B p off m) (fun _ k _ => m - (intOf k).toNat)
  case atStart => exact ⟨0, none, 0, rfl, rfl, Nat.zero_le _, Own.nil _ _ _, Below.refl _ _⟩
  case round =>
    obtain ⟨i, a, cap, rfl, rfl, hi, hO, hB⟩ := hrel
    by_cases hlt : i < m
    · have hd : decide ((i : Int) < (m : Int)) = true := decide_eq_true (by omega)
      have x := (H.out.later hB).head
      have y := ((H.out.later hB).byte p (off + i) hpn (by omega)).1
      obtain ⟨v, hv⟩ : ∃ v, v = B p (off + i) := ⟨_, rfl⟩
      rw [← hv] at y
      obtain ⟨a', c', w2, hrun, hO2, hG2⟩ := append_bytes (hO.alloc (Obj.cells #[.int .u8 (v : Int)] 5)) (Row.single wr 5 (.int .u8 (v : Int)) rfl) (by have := hB.size; simp; omega) (by omega)
      have HRUN := hid hrun
      have HO2 : Hid (Own w2 w.heap.size 5 a' (i + 1) c' (u8s (pgL B p off (i + 1)))) := hid (by rw [pgL_succ, ← hv]; exact hO2)
      have HB2 := hid ((hB.alloc hB.size _).trans (Gr.below (hO.alloc _) hG2 (by have := hB.size; simp; omega)))
      clear hrun hO2 hG2 hO hB hv
      go_wp2_with (first | (at_builtin; refine wpList_append_known rfl _ _ 33 rfl _ _ rfl rfl _ w2 HRUN.out ?_))
      exact ⟨⟨i + 1, a', c', rfl, rfl, by omega, HO2.out, HB2.out⟩, by simp [intOf]; omega⟩
    · obtain rfl : m = i := by omega
      have hd : decide ((m : Int) < (m : Int)) = false := by simp
      have HO := hid hO
      have HB := hid hB
      clear hO hB
      go_wp2
      exact bodyPost_ret (v := .tuple #[.slice a m cap, .int .i64 0]) (by simp [results, Try.results31, go_sem]) rfl ⟨a, cap, rfl, HO.out, HB.out⟩
set_option maxRecDepth 100000 in
set_option maxHeartbeats 1000000 in
theorem rread_bad (r rb n : Nat) (t : Nat → Bool) (B : Nat → Nat → Nat) (p off m : Int) (w : World) (h : Ref w r rb n t B) (E : Int) (hE : lookE n t p off m = E) (hn : E ≠ 0) :
    Calls Try.prog 31 #[.pointer (some ⟨r, 0, none⟩), .int .i64 p, .int .i64 off, .int .i64 m] w fun e w' => e = .returned (.tuple #[.slice none 0 0, .int .i64 E]) ∧ w' = w := by
  have H := hid h
  have HE := hid hE
  have hd : (E != 0) = true := by simpa using hn
  clear h hE hn
  go_enter Try.func31, Try.ntmps31
  go_wp2_with (first | (go_at_call 36; refine (rplace_any r rb n t B p off m _ H.out).mono ?_; rintro e w1 ⟨rfl, rfl⟩; rw [HE.out]))
  exact bodyPost_ret (v := .tuple #[.slice none 0 0, .int .i64 E]) (by simp [results, Try.results31, go_sem]) rfl ⟨rfl, rfl⟩
set_option maxRecDepth 100000 in
set_option maxHeartbeats 1000000 in
theorem rwrite_bad (r rb n : Nat) (t : Nat → Bool) (B : Nat → Nat → Nat) (p off : Int) (a : Option Addr) (m cap : Nat) (w : World) (h : Ref w r rb n t B) (E : Int) (hE : lookE n t p off (m : Int) = E) (hn : E ≠ 0) :
    Calls Try.prog 32 #[.pointer (some ⟨r, 0, none⟩), .int .i64 p, .int .i64 off, .slice a m cap] w fun e w' => e = .returned (.int .i64 E) ∧ w' = w := by
  have H := hid h
  have HE := hid hE
  have hd : (E != 0) = true := by simpa using hn
  clear h hE hn
  go_enter Try.func32, Try.ntmps32
  go_wp2_with (first | (go_at_call 36; refine (rplace_any r rb n t B p off (m : Int) _ H.out).mono ?_; rintro e w1 ⟨rfl, rfl⟩; rw [HE.out]))
  go_ret
  exact ⟨rfl, rfl⟩
def RWRel (w : World) (r rb n : Nat) (t : Nat → Bool) (B : Nat → Nat → Nat) (p off : Nat) (D : List Nat) (v : Value) (w' : World) : Prop :=
  ∃ i : Nat, v = .int .i64 (i : Int) ∧ i ≤ D.length ∧ Ref w' r rb n t (wrB B p off (D.take i)) ∧ But (· = rb) w w'
theorem Ref.putb {w : World} {r rb n : Nat} {t : Nat → Bool} {B C : Nat → Nat → Nat} {p j x : Nat} (h : Ref w r rb n t B) (hp : p < n) (hj : j < 64) (hx : x < 256) (hC : ∀ i k, C i k = if i = p ∧ k = j then x else B i k) : Ref (w.setCell ⟨rb, p * 65 + 1 + j, none⟩ (.int .u8 (x : Int))) r rb n t C := by
  have hne := h.ne
  refine ⟨h.ne, h.le, ?_, fun i hi => (h.on i hi).other (fun e => by have := congrArg Addr.off e; simp at this; omega), fun i k hi hk => ?_, by simpa using h.lt, h.only, fun i k => ?_⟩
  · rw [World.cell?_setCell_other _ _ _ _ (fun e => hne (congrArg Addr.block e).symm)]
    exact h.head
  · rw [hC i k]
    by_cases e : i = p ∧ k = j
    · obtain ⟨rfl, rfl⟩ := e
      rw [if_pos ⟨rfl, rfl⟩]
      exact (h.byte i k hi hk).put
    · rw [if_neg e]
      exact (h.byte i k hi hk).other (fun e2 => e (by have := congrArg Addr.off e2; simp at this; omega))
  · rw [hC i k]
    have := h.small i k
    split <;> omega
theorem wrB_next (B : Nat → Nat → Nat) (p off : Nat) (D : List Nat) (i : Nat) (hi : i < D.length) (q k : Nat) : wrB B p off (D.take (i + 1)) q k = if q = p ∧ k = off + i then D[i] else wrB B p off (D.take i) q k := by
  unfold wrB
  rw [List.length_take, List.length_take, Nat.min_eq_left (by omega), Nat.min_eq_left (by omega)]
  by_cases e : q = p ∧ k = off + i
  · obtain ⟨rfl, rfl⟩ := e
    rw [if_pos ⟨rfl, by omega, by omega⟩, if_pos ⟨rfl, rfl⟩]
    have e1 : off + i - off = i := by omega
    rw [e1, List.getD_eq_getElem?_getD, List.getElem?_take, if_pos (by omega), List.getElem?_eq_getElem hi]
    rfl
  · rw [if_neg e]
    by_cases e2 : q = p ∧ off ≤ k ∧ k < off + i
    · rw [if_pos ⟨e2.1, e2.2.1, by omega⟩, if_pos e2]
      rw [List.getD_eq_getElem?_getD, List.getD_eq_getElem?_getD, List.getElem?_take, List.getElem?_take, if_pos (by omega), if_pos (by omega)]
    · rw [if_neg e2, if_neg (fun h => by
        rcases Nat.lt_or_ge k (off + i) with h1 | h1
        · exact e2 ⟨h.1, h.2.1, h1⟩
        · exact e ⟨h.1, by omega⟩)]
set_option maxRecDepth 100000 in
set_option maxHeartbeats 1000000 in
theorem rwrite_ok (r rb n : Nat) (t : Nat → Bool) (B : Nat → Nat → Nat) (p off : Nat) (a : Option Addr) (m cap : Nat) (D : List Nat) (w : World) (h : Ref w r rb n t B) (hp : t p = true) (ho : off + m ≤ 64) (hD : ∀ x ∈ D, x < 256) (hR : Row w a m cap (u8s D)) (hap : 0 < m → ∀ k, Blk a k → k ≠ rb) :
    Calls Try.prog 32 #[.pointer (some ⟨r, 0, none⟩), .int .i64 (p : Int), .int .i64 (off : Int), .slice a m cap] w fun e w' => e = .returned (.int .i64 0) ∧ Ref w' r rb n t (wrB B p off D) ∧ But (· = rb) w w' := by
  have hpn := h.only p hp
  have HE := hid (lookE_zero hp hpn ho)
  have H := hid h
  have HR := hid hR
  have hlen : D.length = m := by have := hR.len; rwa [u8s_length] at this
  have HD := hid hD
  have HAP := hid hap
  have hn := h.le
  clear h hR hD hap
  go_enter Try.func32, Try.ntmps32
  go_upto_region 5 with (first | (go_at_call 36; refine (rplace_any r rb n t B (p : Int) (off : Int) (m : Int) _ H.out).mono ?_; rintro e w1 ⟨rfl, hw⟩; obtain rfl := hw.symm; rw [HE.out]))
  go_loopw [10] (RWRel w r rb n t B p off D) (fun k _ => m - (intOf k).toNat)
  case atStart => exact ⟨0, rfl, Nat.zero_le _, H.out.congr (by funext i j; simp [wrB]; omega), But.refl _ _⟩
  case round =>
    obtain ⟨i, rfl, hi, hA, hB⟩ := hrel
    have HA := hid hA
    have HB := hid hB
    clear hA hB
    by_cases hlt : i < m
    · have hd : decide ((i : Int) < (m : Int)) = true := decide_eq_true (by omega)
      have hil : i < D.length := by omega
      obtain ⟨b, o, rfl, hc⟩ := HR.out.plain (by omega)
      have y := cell_but HB.out (hc i _ (u8s_get D i hil)) (HAP.out (by omega) b ⟨_, rfl, rfl⟩)
      obtain ⟨v, hv⟩ : ∃ v, v = D[i] := ⟨_, rfl⟩
      rw [← hv] at y
      have x := HA.out.head
      have z := HA.out.byte p (off + i) hpn (by omega)
      have z1 := z.1
      have z2 := z.2
      have HA2 := hid (HA.out.putb (C := wrB B p off (D.take (i + 1))) (j := off + i) (x := v) hpn (by omega) (by rw [hv]; exact HD.out _ (List.getElem_mem _)) (fun q k => by rw [hv]; exact wrB_next B p off D i hil q k))
      have HB2 := hid (HB.out.setCell (p := ⟨rb, p * 65 + 1 + (off + i), none⟩) (show rb = rb from rfl) (.int .u8 (v : Int)))
      have hi1 : (i : Int) < (m : Int) := by omega
      have hi0 : (0 : Int) ≤ (i : Int) := by omega
      have hpi : (p : Int) < (n : Int) := by omega
      have hp0 : (0 : Int) ≤ (p : Int) := by omega
      have ew : IntKind.i64.wrap ((off : Int) + (i : Int)) = (off : Int) + (i : Int) := by rw [IntKind.wrap_i64]; omega
      have ho1 : (0 : Int) ≤ (off : Int) + (i : Int) := by omega
      have ho2 : (off : Int) + (i : Int) < 64 := by omega
      clear hc hv z
      go_upto_region 7 with fail
      go_region
      go_wp2
      exact ⟨⟨i + 1, rfl, by omega, HA2.out.later (Below.refl _ _).drew, HB2.out.call (Below.refl _ _).drew⟩, by simp [intOf]; omega⟩
    · obtain rfl : m = i := by omega
      have hd : decide ((m : Int) < (m : Int)) = false := by simp
      have e0 : D.take m = D := List.take_of_length_le (by omega)
      rw [e0] at HA
      go_wp2
      go_ret
      exact ⟨rfl, HA.out, HB.out⟩
end Go.Proofs.Ytfcfacchppkmdaa
