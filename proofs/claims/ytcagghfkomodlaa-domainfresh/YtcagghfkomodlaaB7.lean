import Derived.Test.YtcagghfkomodlaaB6
namespace Go.Proofs.Ytcagghfkomodlaa
open Go.RowKit
set_option linter.unusedVariables false
set_option linter.unusedSimpArgs false

def SameRelC (w : World) (n : Nat) (K M : List Cp) (t : Value) (w' : World) : Prop :=
  ∃ i : Nat, i ≤ n ∧ t = .int .i64 (i : Int) ∧ (∀ j, j < i → K[j]? = M[j]?) ∧ ∃ q, w' = w.drewN q
set_option maxRecDepth 100000 in
set_option maxHeartbeats 1000000 in
theorem sameC_any {w : World} {a b : Option Addr} {n m : Nat} {K M : List Cp} (ca cb : Nat) (h : Rd w a n K) (k : Rd w b m M) (hn : n ≤ 140737488355328) (hm : m ≤ 140737488355328) :
    Calls Try.prog 12 #[.slice a n ca, .slice b m cb] w fun e w' => e = .returned (.bool (decide (K = M))) ∧ ∃ q, w' = w.drewN q := by
  have hl1 := h.len
  have hl2 := k.len
  have HH := hid h
  have HK := hid k
  clear h k
  by_cases hne : n = m
  · subst hne
    go_enter Try.func12, Try.ntmps12
    go_wp2
    go_loopw [5] (SameRelC w n K M) (fun t _ => n - (intOf t).toNat)
    case atStart => exact ⟨0, Nat.zero_le _, rfl, fun j hj => absurd hj (Nat.not_lt_zero _), 0, rfl⟩
    case round =>
      obtain ⟨i, hi, rfl, heq, q, rfl⟩ := hrel
      have HE := hid heq
      clear heq
      by_cases hlt : i < n
      · obtain ⟨b1, o1, rfl, hc1⟩ := HH.out.at_ (by omega)
        obtain ⟨b2, o2, rfl, hc2⟩ := HK.out.at_ (by omega)
        obtain ⟨c, hc⟩ : ∃ c, K[i]? = some c := ⟨_, List.getElem?_eq_getElem (by omega)⟩
        obtain ⟨d, hd⟩ : ∃ d, M[i]? = some d := ⟨_, List.getElem?_eq_getElem (by omega)⟩
        obtain ⟨x0, x1, x2⟩ := (hc1 i c hc).later (below_drewN (Below.refl w.heap.size w) q)
        obtain ⟨y0, y1, y2⟩ := (hc2 i d hd).later (below_drewN (Below.refl w.heap.size w) q)
        have HC := hid hc
        have HD := hid hd
        clear hc1 hc2 hc hd
        by_cases hcd : c = d
        · have hq1 : cEq c.1 (c.2.1 : Int) (c.2.2 : Int) d.1 (d.2.1 : Int) (d.2.2 : Int) = true := by subst hcd; simp [cEq]
          have heq := fun W => neqC c.1 (c.2.1 : Int) (c.2.2 : Int) d.1 (d.2.1 : Int) (d.2.2 : Int) W
          simp only [hq1] at heq
          have HCD := hid hcd
          clear hcd
          generalize hwq : w.drewN q = wq at *
          have HWQ := hid hwq
          clear hwq
          go_upto_region 6 with fail
          go_quiet (fail)
          go_wp2
          refine ⟨⟨i + 1, by omega, by go_num, fun j hj => ?_, q + nq, by rw [← HWQ.out]; simp [World.drewN, Nat.add_assoc]⟩, by simp [intOf]; omega⟩
          rcases Nat.lt_or_ge j i with h3 | h3
          · exact HE.out j h3
          · obtain rfl : j = i := by omega
            rw [HC.out, HD.out, HCD.out]
        · have hq1 : cEq c.1 (c.2.1 : Int) (c.2.2 : Int) d.1 (d.2.1 : Int) (d.2.2 : Int) = false := by
            refine decide_eq_false fun hq => hcd ?_
            obtain ⟨q1, q2, q3⟩ := hq
            exact Prod.ext q1 (Prod.ext (Int.ofNat.inj q2) (Int.ofNat.inj q3))
          have heq := fun W => neqC c.1 (c.2.1 : Int) (c.2.2 : Int) d.1 (d.2.1 : Int) (d.2.2 : Int) W
          simp only [hq1] at heq
          have HF : Hid (decide (K = M) = false) := decide_eq_false (fun e => by
            subst e
            have := HC.out.symm.trans HD.out
            exact hcd (Option.some.inj this))
          clear hcd
          generalize hwq : w.drewN q = wq at *
          have HWQ := hid hwq
          clear hwq
          go_upto_region 6 with fail
          go_quiet (fail)
          go_wp2
          go_ret
          exact ⟨ret_bool HF.out.symm, q + nq, by rw [← HWQ.out]; simp [World.drewN, Nat.add_assoc]⟩
      · obtain rfl : i = n := by omega
        have HT : Hid (decide (K = M) = true) := decide_eq_true (by
          apply List.ext_getElem?
          intro j
          rcases Nat.lt_or_ge j i with h3 | h3
          · exact HE.out j h3
          · rw [List.getElem?_eq_none (by omega), List.getElem?_eq_none (by omega)])
        go_wp2
        go_ret
        exact ⟨ret_bool HT.out.symm, q, rfl⟩
  · have HF : Hid (decide (K = M) = false) := decide_eq_false (fun e => by subst e; omega)
    have hn1 : ((n : Int) != (m : Int)) = true := by simp; omega
    go_enter Try.func12, Try.ntmps12
    go_wp2
    go_ret
    exact ⟨ret_bool HF.out.symm, 0, rfl⟩
/-- n brought into 0 to t - 1. -/
def intoN (x : Int) (t : Nat) : Nat := (if x.tmod t < 0 then x.tmod t + t else x.tmod t).toNat
theorem tmod_in (x : Int) (t : Nat) (ht : 0 < t) : -(t : Int) < x.tmod t ∧ x.tmod t < t := by
  have h2 := Int.tmod_eq_emod (a := x) (b := (t : Int))
  have h3 := Int.emod_nonneg x (show (t : Int) ≠ 0 by omega)
  have h4 := Int.emod_lt_of_pos x (show 0 < (t : Int) by omega)
  rw [h2]
  split
  · simp; omega
  · next hc =>
    have hd : ¬ (t : Int) ∣ x := fun h => hc (.inr h)
    have : x % (t : Int) ≠ 0 := fun h => hd (Int.dvd_of_emod_eq_zero h)
    simp
    omega
theorem intoN_lt (x : Int) {t : Nat} (ht : 0 < t) : intoN x t < t := by
  have := tmod_in x t ht
  unfold intoN
  split <;> omega
theorem into_any (x : Int) (t : Nat) (w : World) (ht : 0 < t) (h2 : t ≤ 1024) :
    Calls Try.prog 6 #[.int .i64 x, .int .i64 (t : Int)] w fun e w' => e = .returned (.int .i64 (intoN x t : Int)) ∧ w' = w := by
  obtain ⟨hr1, hr2⟩ := tmod_in x t ht
  have ht0 : ¬ ((t : Int) = 0) := by omega
  have ht1 : ¬ (t = 0) := by omega
  by_cases hc : x.tmod t < 0
  · have HV : Hid (x.tmod t + t = (intoN x t : Int)) := by unfold Hid intoN; rw [if_pos hc]; omega
    go_enter Try.func6, Try.ntmps6
    go_wp2
    go_ret
    exact ⟨ret_int HV.out, rfl⟩
  · have HV : Hid (x.tmod t = (intoN x t : Int)) := by unfold Hid intoN; rw [if_neg hc]; omega
    go_enter Try.func6, Try.ntmps6
    go_wp2
    go_ret
    exact ⟨ret_int HV.out, rfl⟩

theorem rd_lit2 (w : World) (c d : Cp) : Rd (w.alloc (Obj.cells #[.int .i64 c.1, .int .u64 (c.2.1 : Int), .int .u64 (c.2.2 : Int), .int .i64 d.1, .int .u64 (d.2.1 : Int), .int .u64 (d.2.2 : Int)] 35)) (some ⟨w.heap.size, 0, none⟩) 2 [c, d] :=
  ⟨rfl, fun _ => ⟨w.heap.size, 0, rfl, fun i x hi => by
    have hl : i < 2 := (List.getElem?_eq_some_iff.1 hi).1
    rcases (show i = 0 ∨ i = 1 by omega) with rfl | rfl
    · simp at hi
      subst hi
      exact ⟨by simp [go_sem], by simp [go_sem], by simp [go_sem]⟩
    · simp at hi
      subst hi
      exact ⟨by simp [go_sem], by simp [go_sem], by simp [go_sem]⟩⟩⟩
theorem rd_lit1 (w : World) (c : Cp) : Rd (w.alloc (Obj.cells #[.int .i64 c.1, .int .u64 (c.2.1 : Int), .int .u64 (c.2.2 : Int)] 35)) (some ⟨w.heap.size, 0, none⟩) 1 [c] :=
  ⟨rfl, fun _ => ⟨w.heap.size, 0, rfl, fun i x hi => by
    have hl : i < 1 := (List.getElem?_eq_some_iff.1 hi).1
    obtain rfl : i = 0 := by omega
    simp at hi
    subst hi
    exact ⟨by simp [go_sem], by simp [go_sem], by simp [go_sem]⟩⟩⟩
theorem row_lit2 (w : World) (x y : Int) : Row (w.alloc (Obj.cells #[.int .i64 x, .int .i64 y] 3)) (some ⟨w.heap.size, 0, none⟩) 2 2 (ints [x, y]) :=
  Row.at (L := ints [x, y]) rfl (Nat.le_refl _) (ints_one _) (fun i v hi => by
    have hl : i < 2 := (List.getElem?_eq_some_iff.1 hi).1
    rcases (show i = 0 ∨ i = 1 by omega) with rfl | rfl
    · simp [ints] at hi; subst hi; simp [go_sem]
    · simp [ints] at hi; subst hi; simp [go_sem])
/-- What lies neither in the struct nor behind s stays. -/
def Av (g s : Nat) (k : Nat) : Prop := k = g ∨ s ≤ k
theorem Wr.av {w w' : World} {g s : Nat} {pa pa' : Option Addr} (h : Wr w w' g pa pa') (hs : s ≤ w.heap.size) (hp : ∀ k, Blk pa k → s ≤ k) : But (Av g s) w w' ∧ ∀ k, Blk pa' k → s ≤ k :=
  ⟨h.but.mono (fun k hk => by
    rcases hk with hk | hk
    · exact .inl hk
    · exact .inr (hp k hk)), fun k hk => by
    rcases h.on k hk with e | e
    · exact hp k e
    · omega⟩
theorem k_pick : pickE 2 [(1, 0, 0), (2, 0, 0)] [1, 0] = 0 ∧ pickL 2 [(1, 0, 0), (2, 0, 0)] [1, 0] = [(2, 0, 0), (1, 0, 0)] := by decide
set_option maxRecDepth 100000 in
set_option maxHeartbeats 4000000 in
theorem known_any (w : World) : Calls Try.prog 8 #[] w fun e w' => e = .returned (.bool true) ∧ Below w.heap.size w w' := by
  go_enter Try.func8, Try.ntmps8
  go_upto_region 4 with (first | (go_at_call 7; refine (new_ok 2 _ (by omega) (by omega)).mono ?_; rintro e w1 ⟨g, rfl, hd1, hb1⟩; have HD1 := hid hd1; have HB1 := hid hb1; clear hd1 hb1))
  obtain ⟨w2, hw2⟩ : ∃ w2, w2 = w1.alloc (Obj.cells #[.int .i64 1, .int .u64 0, .int .u64 0] 35) := ⟨_, rfl⟩
  have hB2 : Below w1.heap.size w1 w2 := by rw [hw2]; exact below1 _ _
  have ha : Cel w2 w1.heap.size 0 (1, 0, 0) := by rw [hw2]; exact ⟨by simp [go_sem], by simp [go_sem], by simp [go_sem]⟩
  go_upto_region 5 with fail
  rw [← hw2]
  clear hw2
  obtain ⟨w3, hw3⟩ : ∃ w3, w3 = w2.alloc (Obj.cells #[.int .i64 2, .int .u64 0, .int .u64 0] 35) := ⟨_, rfl⟩
  have hB3 : Below w2.heap.size w2 w3 := by rw [hw3]; exact below1 _ _
  have hb : Cel w3 w2.heap.size 0 (2, 0, 0) := by rw [hw3]; exact ⟨by simp [go_sem], by simp [go_sem], by simp [go_sem]⟩
  go_upto_region 6 with fail
  rw [← hw3]
  clear hw3
  have hD3 := HD1.out.later (below_call hB2 hB3)
  have hg1 := HD1.out.lt
  have h12 : w1.heap.size < w2.heap.size := World.block_lt_of_cell? _ _ ha.c0
  have h23 : w2.heap.size < w3.heap.size := World.block_lt_of_cell? _ _ hb.c0
  obtain ⟨s, hs⟩ : ∃ s, s = w3.heap.size := ⟨_, rfl⟩
  obtain ⟨ba, hba⟩ : ∃ ba, ba = w1.heap.size := ⟨_, rfl⟩
  obtain ⟨bb, hbb⟩ : ∃ bb, bb = w2.heap.size := ⟨_, rfl⟩
  have HAB : Hid (∀ W, But (Av g s) w3 W → Cel W ba 0 (1, 0, 0) ∧ Cel W bb 0 (2, 0, 0)) := fun W hW =>
    ⟨(by rw [hba]; exact (ha.later hB3)  : Cel w3 ba 0 (1, 0, 0)).but hW (fun e => by rcases e with e | e <;> omega), (by rw [hbb]; exact hb : Cel w3 bb 0 (2, 0, 0)).but hW (fun e => by rcases e with e | e <;> omega)⟩
  have HB3 := hid (below_call HB1.out (below_call hB2 hB3))
  rw [← hba, ← hbb]
  have HS := hid hs
  have hp3 : ∀ k, Blk none k → s ≤ k := fun k hk => by obtain ⟨_, e, _⟩ := hk; cases e
  obtain ⟨⟨a0, a1, a2⟩, b0, b1, b2⟩ := HAB.out w3 (But.refl _ _)
  have had := hid (add_more hD3 (1, 0, 0) (by simp) (by omega))
  have HST4 : Hid (∀ w4 pa4, Wr w3 w4 g none pa4 → But (Av g s) w3 w4 ∧ ∀ k, Blk pa4 k → s ≤ k) := fun w4 pa4 h => h.av (by omega) hp3
  have HW4 : Hid (∀ w4 pa4, Wr w3 w4 g none pa4 → Below w.heap.size w w4) := fun w4 pa4 h => h.below hD3 HB3.out
  clear ha hb hB2 hB3 hD3 hg1 h12 h23 hs hba hbb hp3
  go_upto_region 7 with (first | (go_at_call 9; refine had.out.mono ?_; rintro e w4 ⟨pa4, cap4, rfl, hd4, hr4⟩; have HD4 := hid hd4; have HA4 := hid (HST4.out _ _ hr4); have HB4 := hid (HW4.out _ _ hr4); clear hd4 hr4))
  clear a0 a1 a2 b0 b1 b2 had HST4 HW4
  obtain ⟨⟨a0, a1, a2⟩, b0, b1, b2⟩ := HAB.out w4 HA4.out.1
  have had := hid (add_more HD4.out (2, 0, 0) (by simp) (by omega))
  have HST5 : Hid (∀ w5 pa5, Wr w4 w5 g pa4 pa5 → (But (Av g s) w3 w5 ∧ ∀ k, Blk pa5 k → s ≤ k) ∧ Below w.heap.size w w5) := fun w5 pa5 h => by
    obtain ⟨p1, p2⟩ := h.av (s := s) (by have := HS.out; have := HA4.out.1.size; omega) HA4.out.2
    exact ⟨⟨HA4.out.1.trans p1, p2⟩, h.below HD4.out HB4.out⟩
  go_upto_region 8 with (first | (go_at_call 9; refine had.out.mono ?_; rintro e w5 ⟨pa5, cap5, rfl, hd5, hr5⟩; have HD5 : Hid (Dm w5 w.heap.size g 2 pa5 cap5 [(1, 0, 0), (2, 0, 0)]) := hd5; have HA5 := hid (HST5.out _ _ hr5); clear hd5 hr5))
  clear a0 a1 a2 b0 b1 b2 had HST5 HD4 HA4 HB4
  obtain ⟨⟨a0, a1, a2⟩, b0, b1, b2⟩ := HAB.out w5 HA5.out.1.1
  have had := hid (add_full HD5.out (2, 0, 0) (by simp))
  go_upto_region 9 with (first | (go_at_call 9; refine had.out.mono ?_; rintro e w6 ⟨rfl, hb6⟩; have HB6 := hid hb6; clear hb6))
  clear a0 a1 a2 b0 b1 b2 had
  obtain ⟨w7, hw7⟩ : ∃ w7, w7 = w6.alloc (Obj.cells #[.int .i64 1, .int .i64 0] 3) := ⟨_, rfl⟩
  have hB7 : Below w6.heap.size w6 w7 := by rw [hw7]; exact below1 _ _
  have hrow : Row w7 (some ⟨w6.heap.size, 0, none⟩) 2 2 (ints [1, 0]) := by rw [hw7]; exact row_lit2 w6 1 0
  have hD7 := HD5.out.later (below_call HB6.out hB7)
  have hpi := hid (pick_any hD7 hrow (by omega) (by simp) (by omega))
  rw [k_pick.1, k_pick.2] at hpi
  rw [hw7] at hpi
  have HB57 := hid (below_call HB6.out hB7)
  clear hB7 hrow hD7
  go_upto_region 10 with (first | (go_at_call 15; refine hpi.out.mono ?_; rintro e w8 ⟨p, cp, rfl, ho8, hb8⟩; rw [← hw7] at ho8 hb8; have HO8 := hid ho8; have HB8 := hid (below_call HB57.out hb8); clear ho8 hb8))
  have hD8 := HD5.out.later HB8.out
  have hre : Hid (Calls Try.prog 10 #[.pointer (some ⟨g, 0, none⟩), .int .i64 0] w8 fun e w' => e = .returned (.tuple #[.agg #[.int .i64 1, .int .u64 0, .int .u64 0], .int .i64 0]) ∧ Dm w' w.heap.size g 2 pa5 cap5 [(2, 0, 0)] ∧ Wr w8 w' g pa5 pa5) := rem_ok hD8 0 (1, 0, 0) rfl (by simp)
  have HST9 : Hid (∀ w9, Wr w8 w9 g pa5 pa5 → But (Av g s) w3 w9 ∧ Below w.heap.size w w9 ∧ Rd w9 p 2 [(2, 0, 0), (1, 0, 0)]) := fun w9 h => by
    obtain ⟨p1, p2⟩ := h.av (s := s) (by have := HS.out; have := HA5.out.1.1.size; have := HB8.out.size; omega) HA5.out.1.2
    refine ⟨(HA5.out.1.1.call HB8.out).trans p1, h.below hD8 (HA5.out.2.trans (HB8.out.mono HA5.out.2.size)), (Ow.rd (K := [(2, 0, 0), (1, 0, 0)]) HO8.out rfl).but h.but (fun k hk e => ?_)⟩
    have h1 := (HO8.out.blk k hk).1
    have h2 := HB57.out.size
    rcases e with e | e
    · have := HD5.out.lt; omega
    · have := (HD5.out.own.blk k e).2; omega
  clear hD8 hpi hw7
  go_upto_region 11 with (first | (go_at_call 10; refine hre.out.mono ?_; rintro e w9 ⟨rfl, hd9, hr9⟩; have HD9 := hid hd9; have HA9 := hid (HST9.out _ hr9); clear hd9 hr9))
  obtain ⟨w10, hw10⟩ : ∃ w10, w10 = w9.alloc (Obj.cells #[.int .i64 1, .int .u64 0, .int .u64 0] 35) := ⟨_, rfl⟩
  have hB10 : Below w9.heap.size w9 w10 := by rw [hw10]; exact below1 _ _
  have hx : Cel w10 w9.heap.size 0 (1, 0, 0) := by rw [hw10]; exact ⟨by simp [go_sem], by simp [go_sem], by simp [go_sem]⟩
  rw [← hw10]
  clear hw10
  obtain ⟨bx, hbx⟩ : ∃ bx, bx = w9.heap.size := ⟨_, rfl⟩
  rw [← hbx] at hx ⊢
  have hab := HAB.out w10 (HA9.out.1.call hB10)
  have HC : Hid (∀ U : World, Below w10.heap.size w10 U → ((U.cell? ⟨ba, 0, none⟩ = some (.int .i64 1) ∧ U.cell? ⟨ba, 1, none⟩ = some (.int .u64 0) ∧ U.cell? ⟨ba, 2, none⟩ = some (.int .u64 0)) ∧ (U.cell? ⟨bb, 0, none⟩ = some (.int .i64 2) ∧ U.cell? ⟨bb, 1, none⟩ = some (.int .u64 0) ∧ U.cell? ⟨bb, 2, none⟩ = some (.int .u64 0)) ∧ (U.cell? ⟨bx, 0, none⟩ = some (.int .i64 1) ∧ U.cell? ⟨bx, 1, none⟩ = some (.int .u64 0) ∧ U.cell? ⟨bx, 2, none⟩ = some (.int .u64 0))) ∧ Below w10.heap.size w10 U) := fun U hU => by
    have h1 := hab.1.later hU
    have h2 := hab.2.later hU
    have h3 := hx.later hU
    exact ⟨⟨⟨h1.c0, h1.c1, h1.c2⟩, ⟨h2.c0, h2.c1, h2.c2⟩, h3.c0, h3.c1, h3.c2⟩, hU⟩
  have HD10 := hid (HD9.out.later hB10)
  have HP10 := hid (HA9.out.2.2.later hB10)
  have HFB := hid (HA9.out.2.1.trans (hB10.mono HA9.out.2.1.size))
  have hs1 : Hid (Calls Try.prog 12 #[.slice p 2 cp, .slice (some ⟨w10.heap.size, 0, none⟩) 2 2] (w10.alloc (Obj.cells #[.int .i64 2, .int .u64 0, .int .u64 0, .int .i64 1, .int .u64 0, .int .u64 0] 35)).drew fun e w' => e = .returned (.bool true) ∧ Below w10.heap.size w10 w') := by
    refine (sameC_any cp 2 (HP10.out.later (below1 _ _).drew) ((rd_lit2 w10 (2, 0, 0) (1, 0, 0)).later (Below.refl _ _).drew) (by omega) (by omega)).mono ?_
    rintro e w' ⟨rfl, q, rfl⟩
    exact ⟨ret_bool (by simp), below_drewN (below1 _ _).drew q⟩
  have hl1 : Hid (∀ U, Below w10.heap.size w10 U → Calls Try.prog 11 #[.pointer (some ⟨g, 0, none⟩)] U fun e w' => e = .returned (.int .i64 1) ∧ w' = U) := fun U hU => len_any (HD10.out.later hU)
  have hal : Hid (∀ U, Below w10.heap.size w10 U → Calls Try.prog 13 #[.pointer (some ⟨g, 0, none⟩)] U fun e w' => ∃ q c, e = .returned (.slice q 1 c) ∧ Rd w' q 1 [(2, 0, 0)] ∧ Below w10.heap.size w10 w' ∧ Below U.heap.size U w') := fun U hU => by
    refine (all_any (HD10.out.later hU) (by simp)).mono ?_
    rintro e w' ⟨q, c, rfl, ho, hb⟩
    exact ⟨q, c, rfl, Ow.rd (K := [(2, 0, 0)]) ho rfl, hU.trans (hb.mono hU.size), hb⟩
  have hs2 : Hid (∀ (U : World) (q r : Option Addr) (c d : Nat), Rd U q 1 [(2, 0, 0)] → Rd U r 1 [(2, 0, 0)] → Below w10.heap.size w10 U → Calls Try.prog 12 #[.slice q 1 c, .slice r 1 d] U fun e w' => e = .returned (.bool true) ∧ Below w10.heap.size w10 w') := fun U q r c d hq hr hU => by
    refine (sameC_any c d hq hr (by omega) (by omega)).mono ?_
    rintro e w' ⟨rfl, r, rfl⟩
    exact ⟨ret_bool (by simp), below_drewN hU r⟩
  have heq := fun W => eqlC 1 0 0 1 0 0 W
  simp only [show cEq 1 0 0 1 0 0 = true by decide] at heq
  clear hab hx hB10 hbx HAB HA5 HD5 HO8 HB8 HB57 HST9 hre HA9 HD9 HP10 HD10 HB6 HB3
  go_region_held3 (fun U => ((U.cell? ⟨ba, 0, none⟩ = some (.int .i64 1) ∧ U.cell? ⟨ba, 1, none⟩ = some (.int .u64 0) ∧ U.cell? ⟨ba, 2, none⟩ = some (.int .u64 0)) ∧ (U.cell? ⟨bb, 0, none⟩ = some (.int .i64 2) ∧ U.cell? ⟨bb, 1, none⟩ = some (.int .u64 0) ∧ U.cell? ⟨bb, 2, none⟩ = some (.int .u64 0)) ∧ (U.cell? ⟨bx, 0, none⟩ = some (.int .i64 1) ∧ U.cell? ⟨bx, 1, none⟩ = some (.int .u64 0) ∧ U.cell? ⟨bx, 2, none⟩ = some (.int .u64 0))) ∧ Below w10.heap.size w10 U)
    (first | exact HC.out _ HB4.out | exact HC.out _ (HB3.out.trans ((below1 _ _).mono HB3.out.size)) | exact HC.out _ HB3.out | exact HC.out _ (HB1.out.trans ((below1 _ _).mono HB1.out.size)) | exact HC.out _ HB1.out | exact HC.out _ (below1 _ _).drew | exact HC.out _ (Below.refl _ _).drew)
    (first
    | (go_at_call 12; refine (hs2.out _ _ _ _ _ HQ3.out HR3.out HB3.out).mono ?_; rintro e u4 ⟨rfl, hb⟩; have HB4 := hid hb; clear hb)
    | (go_at_call 12; refine (hs2.out _ _ _ _ _ (HQ3.out.later (below1 _ _)) (rd_lit1 _ (2, 0, 0)) (HB3.out.trans ((below1 _ _).mono HB3.out.size))).mono ?_; rintro e u4 ⟨rfl, hb⟩; have HB4 := hid hb; clear hb)
    | (go_at_call 12; refine hs1.out.mono ?_; rintro e u1 ⟨rfl, hb⟩; have HB1 := hid hb; clear hb)
    | (go_at_call 11; refine (hl1.out _ HB1.out).mono ?_; rintro e u2 ⟨rfl, hw⟩; obtain rfl := hw.symm; clear hw)
    | (go_at_call 13; refine (hal.out _ HB1.out).mono ?_; rintro e u3 ⟨q, c, rfl, hq, hb, hb2⟩; have HQ3 := hid hq; have HB3 := hid hb; clear hq hb hb2)
    | (go_at_call 13; refine (hal.out _ (HB1.out.trans ((below1 _ _).mono HB1.out.size))).mono ?_; rintro e u3 ⟨q, c, rfl, hq, hb, hb2⟩; have HQ3 := hid hq; have HB3 := hid hb; have HR3 := hid ((rd_lit1 _ (2, 0, 0)).later hb2); clear hq hb hb2))
  all_goals go_wp2
  all_goals go_ret
  all_goals exact ⟨rfl, HFB.out.trans (HB4.out.mono HFB.out.size)⟩
end Go.Proofs.Ytcagghfkomodlaa
