import Derived.Test.YtlkjieophdabpaaF3
import Derived.Test.YtlkjieophdabpaaH1
namespace Go.Proofs.Ytlkjieophdabpaa
open Go.RowKit
set_option linter.unusedVariables false

/-- The program's numbers, and a list of the law's beside them. -/
structure Wn (w : World) (base g : Nat) (x : Int) (pa : Option Addr) (cap : Nat) (W : List Int) (aw : Option Addr) (cw : Nat) (V : List Int) : Prop where
  ob : Ob w base g 32 x pa cap W
  iv : Iv 32 x W
  own : Own w base 3 aw V.length cw (ints V)
  dj : ∀ k, Blk aw k → ¬ (k = g ∨ Blk pa k)
theorem Wn.later {w w' : World} {base g : Nat} {x : Int} {pa : Option Addr} {cap : Nat} {W : List Int} {aw : Option Addr} {cw : Nat} {V : List Int} (h : Wn w base g x pa cap W aw cw V) (hb : Below w.heap.size w w') : Wn w' base g x pa cap W aw cw V :=
  ⟨h.ob.later hb, h.iv, h.own.later hb, h.dj⟩
theorem Wn.call {w w' : World} {base g : Nat} {x : Int} {pa : Option Addr} {cap : Nat} {W : List Int} {aw : Option Addr} {cw : Nat} {V : List Int} {x' : Int} {pa' : Option Addr} {cap' : Nat} {W' : List Int} (h : Wn w base g x pa cap W aw cw V)
    (ho : Ob w' base g 32 x' pa' cap' W') (hi : Iv 32 x' W') (hr : Rd w w' g pa pa') : Wn w' base g x' pa' cap' W' aw cw V :=
  ⟨ho, hi, h.own.but hr.but (fun k hk e => h.dj k hk e), fun k hk e => by
    rcases e with e | e
    · exact h.dj k hk (.inl e)
    · rcases hr.on k e with e2 | e2
      · exact h.dj k hk (.inr e2)
      · have := h.own.lt k hk; omega⟩
theorem Wn.app {w w' : World} {base g : Nat} {x : Int} {pa : Option Addr} {cap : Nat} {W : List Int} {aw : Option Addr} {cw : Nat} {V : List Int} {aw' : Option Addr} {cw' : Nat} {y : Int} (h : Wn w base g x pa cap W aw cw V)
    (ho : Own w' base 3 aw' (V.length + 1) cw' (ints (V ++ [y]))) (hG : Gr aw aw' w w') : Wn w' base g x pa cap W aw' cw' (V ++ [y]) := by
  have hlt : ∀ k, (k = g ∨ Blk pa k) → k < w.heap.size := fun k hk => by
    rcases hk with e | e
    · have := h.ob.lt; omega
    · exact h.ob.own.lt k e
  refine ⟨h.ob.but hG.but (fun e => h.dj g e (.inl rfl)) (fun k hk e => h.dj k e (.inr hk)), h.iv, by simpa using ho, fun k hk e => ?_⟩
  rcases hG.on k hk with e2 | e2
  · exact h.dj k e2 e
  · have := hlt k e; omega
theorem sn_at {W : List Int} {at_ : Int} (h : at_ = -1 ∨ at_ ∈ W) : snC W at_ = 5 ∧ ∀ x, snX x W at_ = x := by
  have hn : ¬ okN W at_ = true := fun e => by
    unfold okN under at e
    rw [Bool.and_eq_true, decide_eq_true_eq, decide_eq_true_eq] at e
    rcases h with h | h
    · omega
    · have := e.2 _ h; omega
  unfold snC snX
  exact ⟨if_neg hn, fun x => if_neg hn⟩
def pair {α : Type} (a b : α) (q : Nat) : α := if q = 0 then a else b
/-- Two answers, held against one list. -/
theorem apart2 {w : World} {a1 a2 aw : Option Addr} {M c1 c2 cw : Nat} {X : List Int} (hM : M ≤ 40) (h1 : Own w 0 3 a1 M c1 (ints X)) (h2 : Own w 0 3 a2 M c2 (ints X)) (hw : Row w aw M cw (ints X)) (d12 : ∀ k, Blk a1 k → ¬ Blk a2 k) :
    Calls Try.prog 15 #[.slice (some ⟨w.heap.size, 0, none⟩) 2 2, .slice (some ⟨w.heap.size + 1, 0, none⟩) 2 2] ((w.alloc (Obj.cells #[.slice a1 M c1, .slice a2 M c2] 22)).alloc (Obj.cells #[.slice aw M cw, .slice aw M cw] 22))
      fun e w' => e = .returned (.bool true) ∧ But (fun k => Blk a1 k ∨ Blk a2 k) w w' := by
  have hb := below2 w (Obj.cells #[.slice a1 M c1, .slice a2 M c2] 22) (Obj.cells #[.slice aw M cw, .slice aw M cw] 22)
  have hlb : ∀ k, Blk a1 k ∨ Blk a2 k → k < w.heap.size := by
    rintro k (hk | hk)
    · exact h1.lt k hk
    · exact h2.lt k hk
  refine (apart_any w.heap.size (w.heap.size + 1) 2 2 2 (pair a1 a2) (fun _ => M) (pair c1 c2) (fun _ => X) (fun _ => aw) (fun _ => cw) _ (by omega) (by omega) ⟨?_, ?_, ?_⟩ ?_ ?_ ?_ ?_).mono ?_
  · intro q hq
    rcases q with _ | _ | q
    · exact h1.later hb
    · exact h2.later hb
    · omega
  · intro q r hq hr hne k
    rcases q with _ | _ | q <;> rcases r with _ | _ | r
    all_goals first | omega | exact d12 k | exact fun x y => d12 k y x
  · intro q hq
    exact hM
  · intro q hq
    rcases q with _ | _ | q
    · simp [go_sem, pair]
    · simp [go_sem, pair]
    · omega
  · intro q hq
    rcases q with _ | _ | q
    · simp [go_sem]
    · simp [go_sem]
    · omega
  · intro q hq
    exact hw.later hb
  · rintro ⟨q, hq, hk⟩
    have : w.heap.size < w.heap.size := by
      rcases q with _ | _ | q
      · exact hlb _ (.inl hk)
      · exact hlb _ (.inr hk)
      · omega
    omega
  · rintro e w' ⟨rfl, hB⟩
    refine ⟨rfl, (But.of hb).trans (hB.mono ?_)⟩
    rintro k ⟨q, hq, hk⟩
    rcases q with _ | _ | q
    · exact .inl hk
    · exact .inr hk
    · omega
/-- How far the law has come. -/
def LoRel (w : World) (g k : Nat) (s7 s8 s9 : Value) (w' : World) : Prop :=
  ∃ (i : Nat) (at_ x : Int) (W : List Int) (pa : Option Addr) (cap : Nat) (aw : Option Addr) (cw : Nat), i ≤ k ∧ i ≤ 32 ∧ W.length = i ∧ s7 = .slice aw W.length cw ∧ s8 = .int .i64 at_ ∧ s9 = .int .i64 (i : Int) ∧
    Wn w' w.heap.size g x pa cap W aw cw W ∧ (∀ y ∈ W, y ≤ at_) ∧ (at_ = -1 ∨ at_ ∈ W) ∧ -1 ≤ at_ ∧ at_ ≤ 2000 * (i : Int) - 1 ∧ Below w.heap.size w w'
set_option maxRecDepth 100000 in
set_option maxHeartbeats 4000000 in
theorem loads_law (a : Option Addr) (k c : Nat) (E : List Int) (last : Int) (w : World) (hE : Row w a k c (ints E)) (hk : k ≤ 9223372036854775807) :
    Calls Try.prog 4 #[.slice a k c, .int .i64 last] w fun e w' => e = .returned (.bool true) ∧ Below w.heap.size w w' := by
  have HE := hid hE
  have hEl : E.length = k := by have := hE.len; rwa [ints_length] at this
  clear hE
  obtain ⟨l1, hl1⟩ : ∃ r, last.tmod 1000 = r := ⟨_, rfl⟩
  have t1 : -1000 < l1 := hl1 ▸ Int.lt_tmod_of_pos last (by omega)
  have t2 : l1 < 1000 := hl1 ▸ Int.tmod_lt_of_pos last (by omega)
  obtain ⟨l2, hl2⟩ : ∃ r, (l1 + 1000).tmod 1000 = r := ⟨_, rfl⟩
  have t3 : 0 ≤ l2 := hl2 ▸ Int.tmod_nonneg _ (by omega)
  have t4 : l2 < 1000 := hl2 ▸ Int.tmod_lt_of_pos _ (by omega)
  have hn := hid (new_ok 32 w (by decide) (by decide))
  have i0 : Hid (Iv 32 1 [0]) := Iv.start (by decide) (by decide)
  have i1 : Hid (Iv 32 1 []) := i0.out.exit 0
  go_enter Try.func4, Try.ntmps4
  go_upto_region 2 with (first | (go_at_call 6; refine hn.out.mono ?_; rintro e w1 ⟨g, pa, cap, rfl, ho, hb⟩; have HO1 := hid ho; have HB1 := hid hb; clear ho hb))
  have hex : Hid (∀ U, Below w1.heap.size w1 U → Calls Try.prog 11 #[.pointer (some ⟨g, 0, none⟩), .int .i64 0] U fun e w' => ∃ cap', e = .returned (.int .i64 0) ∧ Ob w' w.heap.size g 32 1 pa cap' [] ∧ Rd U w' g pa pa) := fun U hU => exit_any (HO1.out.later hU) i0.out 0
  go_upto_region 7 with (first
    | (go_at_call 7; refine (num_any _ _).mono ?_; rintro e w9 ⟨rfl, hw9⟩; obtain rfl := hw9.symm; clear hw9)
    | (go_at_call 8; refine (alive_any w1).mono ?_; rintro e w2 ⟨rfl, hb⟩; have HB2 := hid hb; clear hb)
    | (go_at_call 11; refine (hex.out _ HB2.out).mono ?_; rintro e w3 ⟨cap3, rfl, ho, hr⟩; have HO3 := hid ho; have HB3 := hid (hr.below (HO1.out.later HB2.out) (below_call HB1.out HB2.out)); clear ho hr))
  have H0 : Hid (LoRel w g k (.slice none 0 0) (.int .i64 (-1)) (.int .i64 0) w3) := ⟨0, -1, 1, [], pa, cap3, none, 0, by omega, by omega, rfl, rfl, rfl, rfl, ⟨HO3.out, i1.out, Own.nil _ _ _, fun k hk => (by obtain ⟨_, e, _⟩ := hk; cases e)⟩, by simp, .inl rfl, by omega, by omega, HB3.out⟩
  clear HO1 HB1 HB2 HO3 HB3 hn hex i0 i1
  go_loopw [7, 8, 9] (LoRel w g k) (fun _ _ t _ => k - (intOf t).toNat)
  case atStart => exact H0.out
  case round =>
    clear H0
    obtain ⟨i, at_, x, W, pa, cap, aw, cw, hi, hi2, hWl, rfl, rfl, rfl, hW, hle, hin, ha1, ha2, hB⟩ := hrel
    have HW := hid hW
    have HB := hid hB
    replace hle := hid hle
    replace hin := hid hin
    have HWl := hid hWl
    clear hW hB hWl
    by_cases hlt : i < k
    · have hd : decide ((i : Int) < (k : Int)) = true := decide_eq_true (by omega)
      by_cases hlt2 : i < 32
      · have hd2 : decide ((i : Int) < 32) = true := decide_eq_true (by omega)
        clear hl1 hl2 t1 t2 t3 t4
        obtain ⟨b, o, rfl, hc⟩ := HE.out.plain (by omega)
        have y0 := cell_later HB.out (hc i _ (ints_get E i (by omega)))
        obtain ⟨n, hn⟩ : ∃ n, n = E[i]'(by omega) := ⟨_, rfl⟩
        rw [← hn] at y0
        clear hc hn
        obtain ⟨r1, hr1⟩ : ∃ r, n.tmod 2000 = r := ⟨_, rfl⟩
        have t1 : -2000 < r1 := hr1 ▸ Int.lt_tmod_of_pos n (by omega)
        have t2 : r1 < 2000 := hr1 ▸ Int.tmod_lt_of_pos n (by omega)
        obtain ⟨r2, hr2⟩ : ∃ r, (r1 + 2000).tmod 2000 = r := ⟨_, rfl⟩
        have t3 : 0 ≤ r2 := hr2 ▸ Int.tmod_nonneg _ (by omega)
        have t4 : r2 < 2000 := hr2 ▸ Int.tmod_lt_of_pos _ (by omega)
        obtain ⟨a2, ha⟩ : ∃ a2, a2 = at_ + 1 + r2 := ⟨_, rfl⟩
        have hokn : okN W a2 = true := by
          unfold okN under
          rw [Bool.and_eq_true, decide_eq_true_eq, decide_eq_true_eq]
          exact ⟨by omega, fun y hy => by have := hle.out y hy; omega⟩
        have hs1 := hid (setn_any HW.out.ob HW.out.iv a2)
        have HI1 := hid (HW.out.iv.next a2)
        have e1 : snC W a2 = 0 := by unfold snC; rw [if_pos hokn]
        have e2 : snX x W a2 = a2 := by unfold snX; rw [if_pos hokn]
        rw [e1, e2] at hs1
        rw [e2] at HI1
        have hnf : ¬ ((32 : Int) ≤ (W.length : Int) ∨ 65535 < a2) := by have := HWl.out; omega
        have hsp := hid (fun (U : World) (hU : Ob U w.heap.size g 32 a2 pa cap W) => spawn_more hU HI1.out hnf)
        have HI2 : Hid (Iv 32 (a2 + 1) (W ++ [a2])) := by
          have := HI1.out.spawn
          have hff : ¬ fullP 32 a2 W = true := fun e => hnf (of_decide_eq_true e)
          unfold spX spL at this
          rw [if_neg hff, if_neg hff] at this
          exact this
        have hq1 : (a2 != a2) = false := by simp
        have hab1 : -1 ≤ a2 := by omega
        have hab2 : a2 ≤ 2000 * ((i + 1 : Nat) : Int) - 1 := by omega
        have hle2 : Hid (∀ y ∈ W ++ [a2], y ≤ a2) := fun y hy => by
          rcases List.mem_append.1 hy with e | e
          · have := hle.out y e; omega
          · rw [List.mem_singleton] at e; omega
        clear e1 e2 hokn hnf
        go_upto_region 10 with fail
        rw [← ha]
        clear ha t1 t2 t3 t4 hr1 hr2 y0
        go_upto_region 16 with (first
          | (go_at_call 14; refine hs1.out.mono ?_; rintro e w1 ⟨rfl, ho, hr⟩; have HW1 := hid (HW.out.call ho HI1.out hr); have HB1 := hid (hr.below HW.out.ob HB.out); clear ho hr)
          | (go_at_call 7; refine (num_any _ _).mono ?_; rintro e w9 ⟨rfl, hw9⟩; obtain rfl := hw9.symm; clear hw9)
          | (go_at_call 9; refine (hsp.out _ HW1.out.ob).mono ?_; rintro e w2 ⟨pa2, cap2, rfl, ho, hr⟩; have HW2 := hid (HW1.out.call ho HI2.out hr); have HB2 := hid (hr.below HW1.out.ob HB1.out); clear ho hr))
        clear hs1 hsp HW HB HW1 HB1 HI1
        obtain ⟨a3, c3, w3, hrun, hO3, hG3⟩ := append_one a2 (.inl HW2.out.own) HB2.out.size (by have := HWl.out; omega)
        have HN : Hid (LoRel w g k (.slice a3 (W.length + 1) c3) (.int .i64 a2) (.int .i64 ((i : Int) + 1)) w3) :=
          ⟨i + 1, a2, a2 + 1, W ++ [a2], pa2, cap2, a3, c3, by omega, by omega, by simp [HWl.out], by simp, rfl, rfl, HW2.out.app hO3 hG3, hle2.out, .inr (by simp), hab1, hab2, HB2.out.trans (hG3.below HW2.out.own HB2.out.size)⟩
        have HRUN := hid hrun
        clear hrun hO3 hG3 HW2 HB2 HI2 hle2 hle hin
        go_wp2_with (first | (at_builtin; refine wpList_append_known rfl _ _ 22 rfl _ _ rfl rfl _ w3 HRUN.out ?_))
        exact ⟨HN.out, by simp [intOf]; omega⟩
      · have hd2 : decide ((i : Int) < 32) = false := decide_eq_false (by omega)
        have hW2 := HW.out.iv.len32
        have hokn : okN W (at_ + 1 + l2) = true := by
          unfold okN under
          rw [Bool.and_eq_true, decide_eq_true_eq, decide_eq_true_eq]
          exact ⟨by omega, fun y hy => by have := hle.out y hy; omega⟩
        obtain ⟨nx, hnx⟩ : ∃ nx, nx = at_ + 1 + l2 := ⟨_, rfl⟩
        have hs1 := hid (setn_any HW.out.ob HW.out.iv nx)
        have HI1 := hid (HW.out.iv.next nx)
        have e1 : snC W nx = 0 := by unfold snC; rw [hnx, if_pos hokn]
        have e2 : snX x W nx = nx := by unfold snX; rw [hnx, if_pos hokn]
        rw [e1, e2] at hs1
        rw [e2] at HI1
        have hno := sn_at hin.out
        have hs2 := hid (fun (U : World) (hU : Ob U w.heap.size g 32 nx pa cap W) => setn_any hU HI1.out at_)
        rw [hno.1] at hs2
        have e3 : snX nx W at_ = nx := hno.2 nx
        rw [e3] at hs2
        clear e1 e2 e3 hokn hno
        go_upto_region 18 with fail
        rw [← hnx]
        clear hnx
        go_upto_region 20 with (first
          | (go_at_call 7; refine (num_any _ _).mono ?_; rintro e w9 ⟨rfl, hw9⟩; obtain rfl := hw9.symm; clear hw9)
          | (go_at_call 14; refine hs1.out.mono ?_; rintro e w1 ⟨rfl, ho, hr⟩; have HW1 := hid (HW.out.call ho HI1.out hr); have HB1 := hid (hr.below HW.out.ob HB.out); clear ho hr hs1)
          | (go_at_call 14; refine (hs2.out _ HW1.out.ob).mono ?_; rintro e w2 ⟨rfl, ho, hr⟩; have HW2 := hid (HW1.out.call ho HI1.out hr); have HB2 := hid (hr.below HW1.out.ob HB1.out); clear ho hr hs2))
        have hnu := hid (fun (U : World) (hU : Below w2.heap.size w2 U) => numb_any (HW2.out.ob.later hU) HI1.out)
        go_upto_region 22 with (first
          | (go_at_call 12; refine (hnu.out _ HB3.out).mono ?_; rintro e w4 ⟨p4, c4, rfl, ho, hb⟩; have HO4 := hid ho; have HB4 := hid hb; clear ho hb)
          | (go_at_call 12; refine (hnu.out _ (Below.refl _ _)).mono ?_; rintro e w3 ⟨p3, c3, rfl, ho, hb⟩; have HO3 := hid ho; have HB3 := hid hb; clear ho hb))
        have HB24 := hid (below_call HB3.out HB4.out)
        have HW4 := hid (HW2.out.later HB24.out)
        have HO34 := hid (HO3.out.later HB4.out)
        have hne := hid (next_any HW4.out.ob)
        have hap := hid (apart2 (by omega) (HO34.out.mono (Nat.zero_le _)) (HO4.out.mono (Nat.zero_le _)) HW4.out.own.read (fun k h1 h2 => by have h3 := HO3.out.lt k h1; have h4 := HO4.out.blk k h2; omega))
        have hlo : Hid (∀ k, Blk p3 k ∨ Blk p4 k → w2.heap.size ≤ k) := fun k hk => by
          rcases hk with e | e
          · exact HO3.out.blk k e
          · exact Nat.le_trans HB3.out.size (HO4.out.blk k e)
        have hfin : Hid (∀ U, But (fun k => Blk p3 k ∨ Blk p4 k) w4 U → Wn U w.heap.size g nx pa cap W aw cw W ∧ Below w.heap.size w U) := fun U hU => by
          have hb : Below w2.heap.size w2 U := But.below HB24.out hU (fun k hk => hlo.out k hk)
          exact ⟨HW2.out.later hb, below_call HB2.out hb⟩
        have hnu5 := hid (fun (U : World) (hU : Wn U w.heap.size g nx pa cap W aw cw W) => numb_any hU.ob HI1.out)
        have hns := hid (fun (U V : World) (p : Option Addr) (c : Nat) (hU : Wn U w.heap.size g nx pa cap W aw cw W) (ho : Own U V.heap.size 3 p W.length c (ints W)) => numbers_same p aw W.length W.length c cw W U ho.read hU.own.read (by omega))
        have hqq : (nx == nx) = true := by simp
        clear hnu HO3 HO4 HO34 HB3 HB4 HB24 HW2 HW4 hlo HB2
        go_wp2_with (first
          | (go_at_call 13; refine hne.out.mono ?_; rintro e w9 ⟨rfl, hw9⟩; obtain rfl := hw9.symm; clear hw9)
          | (go_at_call 15; refine hap.out.mono ?_; rintro e w5 ⟨rfl, hb⟩; have HF5 := hid (hfin.out _ hb); clear hb)
          | (go_at_call 12; refine (hnu5.out _ HF5.out.1).mono ?_; rintro e w6 ⟨p6, c6, rfl, ho, hb⟩; have HO6 := hid ho; have HW6 := hid (HF5.out.1.later hb); have HB6 := hid (below_call HF5.out.2 hb); clear ho hb)
          | (go_at_call 16; refine (hns.out _ _ _ _ HW6.out HO6.out).mono ?_; rintro e w7 ⟨rfl, hq⟩; have HB7 : Hid (Below w.heap.size w w7) := (by obtain ⟨q, rfl⟩ := hq; exact below_drewN HB6.out q); clear hq))
        go_ret
        exact ⟨rfl, HB7.out⟩
    · have hd : decide ((i : Int) < (k : Int)) = false := decide_eq_false (by omega)
      have hW2 := HW.out.iv.len32
      have hokn : okN W (at_ + 1 + l2) = true := by
        unfold okN under
        rw [Bool.and_eq_true, decide_eq_true_eq, decide_eq_true_eq]
        exact ⟨by omega, fun y hy => by have := hle.out y hy; omega⟩
      obtain ⟨nx, hnx⟩ : ∃ nx, nx = at_ + 1 + l2 := ⟨_, rfl⟩
      have hs1 := hid (setn_any HW.out.ob HW.out.iv nx)
      have HI1 := hid (HW.out.iv.next nx)
      have e1 : snC W nx = 0 := by unfold snC; rw [hnx, if_pos hokn]
      have e2 : snX x W nx = nx := by unfold snX; rw [hnx, if_pos hokn]
      rw [e1, e2] at hs1
      rw [e2] at HI1
      have hno := sn_at hin.out
      have hs2 := hid (fun (U : World) (hU : Ob U w.heap.size g 32 nx pa cap W) => setn_any hU HI1.out at_)
      rw [hno.1] at hs2
      have e3 : snX nx W at_ = nx := hno.2 nx
      rw [e3] at hs2
      clear e1 e2 e3 hokn hno
      go_upto_region 18 with fail
      rw [← hnx]
      clear hnx
      go_upto_region 20 with (first
        | (go_at_call 7; refine (num_any _ _).mono ?_; rintro e w9 ⟨rfl, hw9⟩; obtain rfl := hw9.symm; clear hw9)
        | (go_at_call 14; refine hs1.out.mono ?_; rintro e w1 ⟨rfl, ho, hr⟩; have HW1 := hid (HW.out.call ho HI1.out hr); have HB1 := hid (hr.below HW.out.ob HB.out); clear ho hr hs1)
        | (go_at_call 14; refine (hs2.out _ HW1.out.ob).mono ?_; rintro e w2 ⟨rfl, ho, hr⟩; have HW2 := hid (HW1.out.call ho HI1.out hr); have HB2 := hid (hr.below HW1.out.ob HB1.out); clear ho hr hs2))
      have hnu := hid (fun (U : World) (hU : Below w2.heap.size w2 U) => numb_any (HW2.out.ob.later hU) HI1.out)
      go_upto_region 22 with (first
        | (go_at_call 12; refine (hnu.out _ HB3.out).mono ?_; rintro e w4 ⟨p4, c4, rfl, ho, hb⟩; have HO4 := hid ho; have HB4 := hid hb; clear ho hb)
        | (go_at_call 12; refine (hnu.out _ (Below.refl _ _)).mono ?_; rintro e w3 ⟨p3, c3, rfl, ho, hb⟩; have HO3 := hid ho; have HB3 := hid hb; clear ho hb))
      have HB24 := hid (below_call HB3.out HB4.out)
      have HW4 := hid (HW2.out.later HB24.out)
      have HO34 := hid (HO3.out.later HB4.out)
      have hne := hid (next_any HW4.out.ob)
      have hap := hid (apart2 (by omega) (HO34.out.mono (Nat.zero_le _)) (HO4.out.mono (Nat.zero_le _)) HW4.out.own.read (fun k h1 h2 => by have h3 := HO3.out.lt k h1; have h4 := HO4.out.blk k h2; omega))
      have hlo : Hid (∀ k, Blk p3 k ∨ Blk p4 k → w2.heap.size ≤ k) := fun k hk => by
        rcases hk with e | e
        · exact HO3.out.blk k e
        · exact Nat.le_trans HB3.out.size (HO4.out.blk k e)
      have hfin : Hid (∀ U, But (fun k => Blk p3 k ∨ Blk p4 k) w4 U → Wn U w.heap.size g nx pa cap W aw cw W ∧ Below w.heap.size w U) := fun U hU => by
        have hb : Below w2.heap.size w2 U := But.below HB24.out hU (fun k hk => hlo.out k hk)
        exact ⟨HW2.out.later hb, below_call HB2.out hb⟩
      have hnu5 := hid (fun (U : World) (hU : Wn U w.heap.size g nx pa cap W aw cw W) => numb_any hU.ob HI1.out)
      have hns := hid (fun (U V : World) (p : Option Addr) (c : Nat) (hU : Wn U w.heap.size g nx pa cap W aw cw W) (ho : Own U V.heap.size 3 p W.length c (ints W)) => numbers_same p aw W.length W.length c cw W U ho.read hU.own.read (by omega))
      have hqq : (nx == nx) = true := by simp
      clear hnu HO3 HO4 HO34 HB3 HB4 HB24 HW2 HW4 hlo HB2
      go_wp2_with (first
        | (go_at_call 13; refine hne.out.mono ?_; rintro e w9 ⟨rfl, hw9⟩; obtain rfl := hw9.symm; clear hw9)
        | (go_at_call 15; refine hap.out.mono ?_; rintro e w5 ⟨rfl, hb⟩; have HF5 := hid (hfin.out _ hb); clear hb)
        | (go_at_call 12; refine (hnu5.out _ HF5.out.1).mono ?_; rintro e w6 ⟨p6, c6, rfl, ho, hb⟩; have HO6 := hid ho; have HW6 := hid (HF5.out.1.later hb); have HB6 := hid (below_call HF5.out.2 hb); clear ho hb)
        | (go_at_call 16; refine (hns.out _ _ _ _ HW6.out HO6.out).mono ?_; rintro e w7 ⟨rfl, hq⟩; have HB7 : Hid (Below w.heap.size w w7) := (by obtain ⟨q, rfl⟩ := hq; exact below_drewN HB6.out q); clear hq))
      go_ret
      exact ⟨rfl, HB7.out⟩
end Go.Proofs.Ytlkjieophdabpaa
