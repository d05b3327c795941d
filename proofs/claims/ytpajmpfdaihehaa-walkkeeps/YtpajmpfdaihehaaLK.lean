import Derived.Test.YtpajmpfdaihehaaLR
import Derived.Test.YtpajmpfdaihehaaW2
import Derived.Test.YtpajmpfdaihehaaF3
namespace Go.Proofs.Ytpajmpfdaihehaa
open Go.RowKit
set_option linter.unusedVariables false

def three {α : Type} (x y z : α) (q : Nat) : α := if q = 0 then x else if q = 1 then y else z
def ChainRel (w : World) (g gb m : Nat) (t : Value) (w' : World) : Prop := ∃ j : Nat, j + 1 ≤ m ∧ t = .int .i64 ((j : Int) + 1) ∧ Ki w' g gb m (cn (j + 1)) ∧ Below w.heap.size w w'
def WantRel (w : World) (m : Nat) (v t : Value) (w' : World) : Prop := ∃ (i : Nat) (a : Option Addr) (c : Nat), i ≤ m + 1 ∧ v = .slice a i c ∧ t = .int .i64 ((m : Int) - (i : Int)) ∧ Own w' w.heap.size 3 a i c (ints (((up 0 (m + 1)).reverse).take i)) ∧ Below w.heap.size w w'
theorem blk_three {a1 a2 a3 : Option Addr} {k : Nat} (h : Bs 3 (three a1 a2 a3) k) : Blk a1 k ∨ Blk a2 k ∨ Blk a3 k := by
  obtain ⟨q, hq, hk⟩ := h
  rcases q with _ | _ | _ | q
  · exact .inl hk
  · exact .inr (.inl hk)
  · exact .inr (.inr hk)
  · omega
/-- Three answers, held against one list. -/
theorem apart3 {w : World} {a1 a2 a3 aw : Option Addr} {M kk c1 c2 c3 cw : Nat} {X : List Int} (hM : M ≤ 2000) (hM0 : 0 < M) (hkk : kk ≤ M) (h1 : Own w 0 3 a1 M c1 (ints X)) (h2 : Own w 0 3 a2 kk c2 (ints (X.take kk))) (h3 : Own w 0 3 a3 M c3 (ints X)) (hw : Row w aw M cw (ints X))
    (d12 : ∀ k, Blk a1 k → ¬ Blk a2 k) (d13 : ∀ k, Blk a1 k → ¬ Blk a3 k) (d23 : ∀ k, Blk a2 k → ¬ Blk a3 k) :
    Calls Try.prog 24 #[.slice (some ⟨w.heap.size, 0, none⟩) 3 3, .slice (some ⟨w.heap.size + 1, 0, none⟩) 3 3] ((w.alloc (Obj.cells #[.slice a1 M c1, .slice a2 kk c2, .slice a3 M c3] 28)).alloc (Obj.cells #[.slice aw M cw, .slice aw kk cw, .slice aw M cw] 28))
      fun e w' => e = .returned (.bool true) ∧ But (fun k => Blk a1 k ∨ Blk a2 k ∨ Blk a3 k) w w' := by
  have hb := below2 w (Obj.cells #[.slice a1 M c1, .slice a2 kk c2, .slice a3 M c3] 28) (Obj.cells #[.slice aw M cw, .slice aw kk cw, .slice aw M cw] 28)
  have hlb : ∀ k, Blk a1 k ∨ Blk a2 k ∨ Blk a3 k → k < w.heap.size := by
    rintro k (hk | hk | hk)
    · exact h1.lt k hk
    · exact h2.lt k hk
    · exact h3.lt k hk
  refine (apart_any w.heap.size (w.heap.size + 1) 3 3 3 (three a1 a2 a3) (three M kk M) (three c1 c2 c3) (three X (X.take kk) X) (fun _ => aw) (fun _ => cw) _ (by omega) (by omega) ⟨?_, ?_, ?_⟩ ?_ ?_ ?_ ?_).mono ?_
  · intro q hq
    rcases q with _ | _ | _ | q
    · exact h1.later hb
    · exact h2.later hb
    · exact h3.later hb
    · omega
  · intro q r hq hr hne k
    rcases q with _ | _ | _ | q <;> rcases r with _ | _ | _ | r
    all_goals first | omega | exact d12 k | exact d13 k | exact d23 k | exact fun x y => d12 k y x | exact fun x y => d13 k y x | exact fun x y => d23 k y x
  · intro q hq
    rcases q with _ | _ | _ | q
    · exact hM
    · exact Nat.le_trans hkk hM
    · exact hM
    · omega
  · intro q hq
    have hc := fun i => cell_lit w #[.slice a1 M c1, .slice a2 kk c2, .slice a3 M c3] 28 i
    rcases q with _ | _ | _ | q
    · exact cell_later (below1 _ _) ((hc 0).trans rfl)
    · exact cell_later (below1 _ _) ((hc 1).trans rfl)
    · exact cell_later (below1 _ _) ((hc 2).trans rfl)
    · omega
  · intro q hq
    have hc := fun i => cell_lit (w.alloc (Obj.cells #[.slice a1 M c1, .slice a2 kk c2, .slice a3 M c3] 28)) #[.slice aw M cw, .slice aw kk cw, .slice aw M cw] 28 i
    simp only [World.size_alloc] at hc
    rcases q with _ | _ | _ | q
    · exact (hc 0).trans rfl
    · exact (hc 1).trans rfl
    · exact (hc 2).trans rfl
    · omega
  · intro q hq
    have hr := hw.later hb
    have hr2 : Row _ aw kk cw (ints (X.take kk)) := hr.cut hkk hM0
    rcases q with _ | _ | _ | q
    · exact hr
    · exact hr2
    · exact hr
    · omega
  · intro hk
    have := hlb _ (blk_three hk)
    omega
  · rintro e w' ⟨rfl, hB⟩
    exact ⟨rfl, (But.of hb).trans (hB.mono (fun k hk => blk_three hk))⟩
theorem cn_root (m : Nat) (h : 0 < m) : rootE m [] 0 = 0 ∧ rootL m [] 0 = cn (0 + 1) := by
  unfold rootE rootL
  refine ⟨?_, ?_⟩
  · rw [if_pos (by omega), if_neg (by simp [nums])]
  · rw [if_pos ⟨by omega, by simp [nums]⟩]
    rfl
theorem cn_child (m j : Nat) (h : j + 1 < m) : childE m (cn (j + 1)) (j : Int) ((j : Int) + 1) = 0 ∧ childL m (cn (j + 1)) (j : Int) ((j : Int) + 1) = cn (j + 1 + 1) := by
  have h1 : (j : Int) ∈ nums (cn (j + 1)) := mem_cn.2 (by omega)
  have h2 : (j : Int) + 1 ∉ nums (cn (j + 1)) := fun hh => by have := mem_cn.1 hh; omega
  unfold childE childL rootE
  refine ⟨?_, ?_⟩
  · rw [if_pos h1, if_pos (by omega), if_neg h2]
  · rw [if_pos ⟨h1, by omega, h2⟩]
    show _ = cn (j + 1) ++ [(((j + 1 : Nat) : Int), ((j + 1 : Nat) : Int) - 1)]
    congr 3
    omega
set_option maxRecDepth 100000 in
set_option maxHeartbeats 4000000 in
theorem keeps_law (x0 n : Int) (w : World) :
    Calls Try.prog 5 #[.int .i64 x0, .int .i64 n] w fun e w' => e = .returned (.bool true) ∧ Below w.heap.size w w' := by
  obtain ⟨m0, hm, hmv, hm1, hm2⟩ := rest_pos x0 1024 (by omega)
  simp only [Int.cast_ofNat_Int] at hmv hm1 hm2
  have hwr : IntKind.i64.wrap (x0.tmod 1024 + 1024) = x0.tmod 1024 + 1024 := wrap_small (by omega) (by omega)
  obtain ⟨m, hmm⟩ : ∃ m, m = m0 + 1 := ⟨_, rfl⟩
  have hmi : 1 + (m0 : Int) = (m : Int) := by omega
  have hr := (cn_root m (by omega)).1
  have hrl := (cn_root m (by omega)).2
  go_enter Try.func5, Try.ntmps5
  go_upto_region 2 with fail
  rw [show (m0 : Int) + 1 = (m : Int) by omega]
  have hm3 : 1 ≤ m ∧ m ≤ 1024 := by omega
  obtain ⟨hm4, hm5⟩ := hm3
  clear hmi hmm hmv hm1 hm2 hwr hm
  have HRL := hid hrl
  clear hrl
  go_upto_region 7 with (first | (go_at_call 21; refine (new_ok _ m hm5).mono ?_; rintro e w1 ⟨g, gb, rfl, hK1, hg, hgb, hB1⟩; have HK1 := hid hK1; have HB1 := hid hB1; clear hK1 hB1) | (go_at_call 16; refine (num_any _ _).mono ?_; rintro e w9 ⟨rfl, h9⟩; subst h9) | (go_at_call 8; refine (alive_any _).mono ?_; rintro e w2 ⟨rfl, hb2⟩; have HK2 := hid (HK1.out.later hb2); have HB2 := hid (below_call HB1.out hb2); clear hb2 HK1 HB1) | (go_at_call 22; refine (root_any HK2.out 0).mono ?_; rintro e w3 hD3; rw [hr, HRL.out] at hD3; obtain ⟨rfl, hK3, hB3⟩ := hD3; have HK3 := hid hK3; have HB3 := hid (But.below HB2.out hB3 (fun k hk => by rw [hk]; exact hgb)); clear hK3 hB3 HK2 HB2))
  go_loopw [9] (ChainRel w g gb m) (fun t _ => m - (intOf t).toNat)
  case atStart => exact ⟨0, by omega, by go_num, HK3.out, HB3.out⟩
  case round =>
    clear HK3 HB3
    obtain ⟨j, hj, rfl, hK, hB⟩ := hrel
    have HK := hid hK
    have HB := hid hB
    clear hK hB
    by_cases hlt : (j : Int) + 1 < (m : Int)
    · have hc := child_any HK.out (j : Int) ((j : Int) + 1)
      rw [(cn_child m j (by omega)).1, (cn_child m j (by omega)).2] at hc
      go_wp2_with (first | (go_at_call 23; refine hc.mono ?_; rintro e w4 ⟨rfl, hK4, hB4⟩; have HK4 := hid hK4; have HB4 := hid (But.below HB.out hB4 (fun k hk => by rw [hk]; exact hgb)); clear hK4 hB4) | (go_at_call 16; refine (num_any _ _).mono ?_; rintro e w9 ⟨rfl, h9⟩; subst h9))
      go_roundw
      case rel => exact ⟨j + 1, by omega, by go_num, HK4.out, HB4.out⟩
      case measure => simp [intOf]; omega
    · obtain rfl : m = j + 1 := by omega
      have HOK := hid HK.out.ok
      obtain ⟨X, hX⟩ : ∃ X, X = (up 0 (j + 1)).reverse := ⟨_, rfl⟩
      have HX := hid hX
      have hXl : X.length = j + 1 := by rw [hX, List.length_reverse, up_len]
      clear hX HRL hr hlt hj
      go_upto_region 12 with fail
      rw [show ((j + 1 : Nat) : Int) = (j : Int) + 1 by omega]
      go_loopw [8, 10] (WantRel wr j) (fun _ t _ => (intOf t + 1).toNat)
      case atStart => exact ⟨0, none, 0, by omega, rfl, by go_num, by rw [List.take_zero]; exact Own.nil _ _ _, Below.refl _ _⟩
      case round =>
        obtain ⟨i, a, c, hi, rfl, rfl, hO, hB⟩ := hrel
        by_cases hij : i ≤ j
        · obtain ⟨a', c', w4, hrun, hO4, hG4⟩ := append_one ((j : Int) - (i : Int)) (.inl hO) hB.size (by omega)
          have hst := want_step (m := j + 1) (j := i) (by omega)
          rw [show ((j + 1 : Nat) : Int) - 1 - (i : Int) = (j : Int) - (i : Int) by omega] at hst
          rw [← hst] at hO4
          have HRUN := hid hrun
          have HO4 := hid hO4
          have HB4 := hid (hB.trans (hG4.below hO hB.size))
          have hge : (i : Int) ≤ (j : Int) := by omega
          clear hO hB hrun hO4 hG4 hst
          go_wp2_with (first | (at_builtin; refine wpList_append_known rfl _ _ 28 rfl _ _ rfl rfl _ w4 HRUN.out ?_))
          go_roundw
          case rel => exact ⟨i + 1, a', c', by omega, rfl, by go_num, HO4.out, HB4.out⟩
          case measure => simp [intOf]; omega
        · obtain rfl : i = j + 1 := by omega
          rw [List.take_of_length_le (by rw [List.length_reverse, up_len]; exact Nat.le_refl _), ← HX.out] at hO
          have HO := hid hO
          have HBW := hid hB
          clear hO hB hij hi
          obtain ⟨k, hk1, hk2, hk3, hk4⟩ := rest_pos n (j + 1) (by omega)
          rw [show ((j + 1 : Nat) : Int) = (j : Int) + 1 by omega] at hk2 hk3 hk4
          have hkw : IntKind.i64.wrap (n.tmod ((j : Int) + 1) + ((j : Int) + 1)) = n.tmod ((j : Int) + 1) + ((j : Int) + 1) := wrap_small (by omega) (by omega)
          have hne : ((j : Int) + 1 == 0) = false := by simp; omega
          have hne2 : ¬ ((j : Int) + 1 = 0) := by omega
          have HF0 : Hid (∀ W, Below wr.heap.size wr W → Calls Try.prog 10 #[.pointer (some ⟨g, 0, none⟩), .int .i64 0] W fun e w' => ∃ a c, e = .returned (.slice a (j + 1) c) ∧ Own w' W.heap.size 3 a (j + 1) c (ints X) ∧ Below W.heap.size W w') := hid (fun W hW => by
            have h := fall_F (HK.out.later (HBW.out.trans (hW.mono HBW.out.size))) 0
            have e := cn_Fl HOK.out (k := 0) (by omega)
            rw [show ((0 : Nat) : Int) = 0 from rfl, Nat.sub_zero, ← HX.out] at e
            rw [e, hXl] at h
            exact h)
          have HFk : Hid (∀ W, Below wr.heap.size wr W → Calls Try.prog 10 #[.pointer (some ⟨g, 0, none⟩), .int .i64 (k : Int)] W fun e w' => ∃ a c, e = .returned (.slice a (j + 1 - k) c) ∧ Own w' W.heap.size 3 a (j + 1 - k) c (ints (X.take (j + 1 - k))) ∧ Below W.heap.size W w') := hid (fun W hW => by
            have h := fall_F (HK.out.later (HBW.out.trans (hW.mono HBW.out.size))) (k : Int)
            have e := cn_Fl HOK.out hk1
            rw [← want_take (by omega), ← HX.out] at e
            rw [e, List.length_take, hXl, show min (j + 1 - k) (j + 1) = j + 1 - k by omega] at h
            exact h)
          have HUp : Hid (∀ W, Below wr.heap.size wr W → Calls Try.prog 14 #[.pointer (some ⟨g, 0, none⟩), .int .i64 (j : Int)] W fun e w' => ∃ a c, e = .returned (.tuple #[.slice a (j + 1) c, .bool true]) ∧ Row w' a (j + 1) c (ints X) ∧ Below W.heap.size W w') := hid (fun W hW => by
            have h := ups_U (HK.out.later (HBW.out.trans (hW.mono HBW.out.size))) (j : Int)
            rw [cn_U HOK.out j (by omega), ← HX.out, hXl] at h
            refine h.mono ?_
            rintro e w' ⟨a, c, rfl, hR, _, hb⟩
            exact ⟨a, c, rfl, hR, hb⟩)
          have HU1 : Hid (∀ W, Below wr.heap.size wr W → Calls Try.prog 15 #[.pointer (some ⟨g, 0, none⟩), .int .i64 0, .int .i64 (j : Int)] W fun e w' => e = .returned (.bool true) ∧ Below W.heap.size W w') := hid (fun W hW => by
            have h := under_any (HK.out.later (HBW.out.trans (hW.mono HBW.out.size))) 0 (j : Int)
            rw [cn_U HOK.out j (by omega), decide_eq_true (List.mem_reverse.2 (mem_up.2 (by omega)))] at h
            exact h)
          have HU2 : Hid (0 < j → ∀ W, Below wr.heap.size wr W → Calls Try.prog 15 #[.pointer (some ⟨g, 0, none⟩), .int .i64 (j : Int), .int .i64 0] W fun e w' => e = .returned (.bool false) ∧ Below W.heap.size W w') := hid (fun hj0 W hW => by
            have h := under_any (HK.out.later (HBW.out.trans (hW.mono HBW.out.size))) (j : Int) 0
            have e := cn_U HOK.out 0 (by omega)
            rw [show ((0 : Nat) : Int) = 0 from rfl] at e
            rw [e, decide_eq_false (fun hh => by have := mem_up.1 (List.mem_reverse.1 hh); omega)] at h
            exact h)
          obtain ⟨kk, hkk⟩ : ∃ kk, kk = j + 1 - k := ⟨_, rfl⟩
          rw [← hkk] at HFk
          have hkki : (j : Int) + 1 - (k : Int) = (kk : Int) := by omega
          have hkkl : kk ≤ j + 1 := by omega
          have hRW := HO.out.read
          have hcw := hRW.cap_
          have HRW := hid hRW
          have HBase := hid (below_call HB.out HBW.out)
          obtain ⟨ga, rfl⟩ := HO.out.form (by omega)
          clear HK HOK hRW HB HO HBW hkk
          go_upto_region 19 with (first | (have hq_ := mk1; clear hq_; go_at_call_of 10 (Value.pointer (some ⟨g, 0, none⟩)); refine (HF0.out _ HB4.out).mono ?_; rintro e w5 ⟨a5, c5, rfl, hO5, hb5⟩; have HO3c := hid (HO3b.out.later hb5); have HO4c := hid (HO4.out.later hb5); have HO5 := hid hO5; have HB5 := hid (below_call HB4.out hb5); clear hO5 hb5) | (have hq_ := HO3; clear hq_; go_at_call 10; refine (HFk.out _ HB3.out).mono ?_; rintro e w4 ⟨a4, c4, rfl, hO4, hb4⟩; have HO3b := hid (HO3.out.later hb4); have HO4 := hid hO4; have HB4 := hid (below_call HB3.out hb4); have mk1 := hid True.intro; clear hO4 hb4) | (go_at_call 10; refine (HF0.out _ (Below.refl _ _)).mono ?_; rintro e w3 ⟨a3, c3, rfl, hO3, hb3⟩; have HO3 := hid hO3; have HB3 := hid hb3; clear hO3 hb3))
          have HAP := hid (apart3 (w := w5) (cw := c) (by omega) (by omega) hkkl (HO3c.out.mono (Nat.zero_le _)) (HO4c.out.mono (Nat.zero_le _)) (HO5.out.mono (Nat.zero_le _)) (HRW.out.later HB5.out)
            (fun k h1 h2 => by have := HO3.out.lt k h1; have := HO4.out.blk k h2; omega) (fun k h1 h2 => by have := HO3b.out.lt k h1; have := HO5.out.blk k h2; omega) (fun k h1 h2 => by have := HO4.out.lt k h1; have := HO5.out.blk k h2; omega))
          have HB6f := hid (fun (w6 : World) (hB : But (fun k => Blk a3 k ∨ Blk a4 k ∨ Blk a5 k) w5 w6) => But.below HB5.out hB (fun k hk => by
            rcases hk with h1 | h1 | h1
            · exact HO3.out.blk k h1
            · have := HO4.out.blk k h1; have := HB3.out.size; omega
            · have := HO5.out.blk k h1; have := HB4.out.size; omega))
          have hcap : kk ≤ c := by omega
          clear HO3 HB3 HO3b HO4 HB4 mk1 HO3c HO4c HO5 HB5 HFk hk2 hk3 hk4 hkw hne hne2
          go_upto_region 22 with (first | (go_at_call 24; refine HAP.out.mono ?_; rintro e w6 ⟨rfl, hB6⟩; have HB6 := hid (HB6f.out _ hB6); clear hB6 HAP HB6f) | (go_at_call 14; refine (HUp.out _ HB6.out).mono ?_; rintro e w7 ⟨a7, c7, rfl, hR7, hb7⟩; have HR7 := hid hR7; have HB7 := hid (below_call HB6.out hb7); clear hR7 hb7))
          have N1 := hid (numbers_true HR7.out (HRW.out.later HB7.out) (by omega))
          by_cases hj0 : j = 0
          · have he : ((j : Int) + 1 == 1) = true := by simp; omega
            clear HU2 hj0
            go_wp2_with (first | (have hq_ := N2; clear hq_; go_at_call 25; refine N2.out.mono ?_; rintro e w10 ⟨rfl, hb10⟩; have HB10 := hid (below_call HB9.out hb10); clear hb10) | (go_at_call 25; refine N1.out.mono ?_; rintro e w8 ⟨rfl, hb8⟩; have HB8 := hid (below_call HB7.out hb8); clear hb8) | (go_at_call 10; refine (HF0.out _ HB8.out).mono ?_; rintro e w9 ⟨a9, c9, rfl, hO9, hb9⟩; have HB9 := hid (below_call HB8.out hb9); have N2 := hid (numbers_true hO9.read (HRW.out.later (below_call HB8.out hb9)) (by omega)); clear hO9 hb9) | (go_at_call 15; refine (HU1.out _ HB10.out).mono ?_; rintro e w11 ⟨rfl, hb11⟩; have HB11 := hid (below_call HB10.out hb11); clear hb11))
            go_ret
            exact ⟨rfl, below_call HBase.out HB11.out⟩
          · have he : ((j : Int) + 1 == 1) = false := by simp; omega
            have HU3 := hid (HU2.out (by omega))
            clear HU2 hj0
            go_wp2_with (first | (have hq_ := N2; clear hq_; go_at_call 25; refine N2.out.mono ?_; rintro e w10 ⟨rfl, hb10⟩; have HB10 := hid (below_call HB9.out hb10); clear hb10) | (go_at_call 25; refine N1.out.mono ?_; rintro e w8 ⟨rfl, hb8⟩; have HB8 := hid (below_call HB7.out hb8); clear hb8) | (go_at_call 10; refine (HF0.out _ HB8.out).mono ?_; rintro e w9 ⟨a9, c9, rfl, hO9, hb9⟩; have HB9 := hid (below_call HB8.out hb9); have N2 := hid (numbers_true hO9.read (HRW.out.later (below_call HB8.out hb9)) (by omega)); clear hO9 hb9) | (have hq_ := HB11; clear hq_; go_at_call 15; refine (HU3.out _ HB11.out).mono ?_; rintro e w12 ⟨rfl, hb12⟩; have HB12 := hid (below_call HB11.out hb12); clear hb12) | (go_at_call 15; refine (HU1.out _ HB10.out).mono ?_; rintro e w11 ⟨rfl, hb11⟩; have HB11 := hid (below_call HB10.out hb11); clear hb11))
            go_ret
            exact ⟨rfl, below_call HBase.out HB12.out⟩
end Go.Proofs.Ytpajmpfdaihehaa
