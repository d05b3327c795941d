import Derived.Test.YthlojdclncikiaaK2
import Derived.Test.YthlojdclncikiaaM3
namespace Go.Proofs.Ythlojdclncikiaa
open Go.RowKit
set_option linter.unusedVariables false
set_option linter.unusedSimpArgs false

/-- The puts in order. -/
def prs (C : List Cp) (L : List Int) : List Pu := C.mapIdx fun i c => (c, rightN L i)
theorem prs_length (C : List Cp) (L : List Int) : (prs C L).length = C.length := by simp [prs]
theorem prs_get {C : List Cp} {L : List Int} {i : Nat} {c : Cp} (h : C[i]? = some c) : (prs C L)[i]? = some (c, rightN L i) := by simp [prs, h]
theorem take_rev {ps : List Pu} {i : Nat} {x : Pu} (h : ps[i]? = some x) : (ps.take (i + 1)).reverse = x :: (ps.take i).reverse := by
  have hi := (List.getElem?_eq_some_iff.1 h).1
  rw [List.take_add_one, h]
  simp
theorem rowN_one (k : Nat) (c : Cp) : rowN k 1 c = 0 := Nat.mod_one _
/-- Loop 1: i puts are done. -/
def L1Rel (W : World) (g n k : Nat) (ps : List Pu) (t : Value) (w : World) : Prop :=
  ∃ (i : Nat) (T : Nat → List Pu), i ≤ ps.length ∧ t = .int .i64 (i : Int) ∧ T 0 = (ded (ps.take i).reverse).take n ∧ Kc w g 1 n k T 0 0 0 ∧ But (fun x => x = g) W w
/-- Loop 2: m puts are still to be looked at. -/
def L2Rel (W : World) (g n k : Nat) (ps : List Pu) (s t : Value) (w : World) : Prop :=
  ∃ (m : Nat) (T : Nat → List Pu) (A : List Pu) (a : Option Addr) (cap : Nat) (hi mi : Int), m ≤ ps.length ∧ A.length + m ≤ ps.length ∧ s = .slice a A.length cap ∧ t = .int .i64 ((m : Int) - 1) ∧ T 0 = (ded ps.reverse).take n ∧ Kc w g 1 n k T 0 hi mi ∧
    ded ps.reverse = A ++ (ded (ps.take m).reverse).filter (fun y => y.1 ∉ A.map (·.1)) ∧ Ow w W.heap.size 34 3 a A.length cap (caps (A.map (·.1))) ∧ But (fun x => x = g) W w
theorem L1Rel.next {W : World} {g n k : Nat} {ps : List Pu} {w' : World} {i : Nat} {T : Nat → List Pu} {x : Pu} (h1 : 1 ≤ n) (hx : ps[i]? = some x) (hT : T 0 = (ded (ps.take i).reverse).take n) (hk : Kc w' g 1 n k (putT 1 n k T x.1 x.2) 0 0 0) (hb : But (fun x => x = g) W w') (t : Value) (ht : t = .int .i64 ((i + 1 : Nat) : Int)) : L1Rel W g n k ps t w' := by
  have hi := (List.getElem?_eq_some_iff.1 hx).1
  refine ⟨i + 1, _, hi, ht, ?_, hk, hb⟩
  unfold putT
  rw [if_neg (by decide), rowN_one, if_pos rfl, hT, take_rev hx]
  exact put_ded h1 x _
theorem L2Rel.skip {ps A : List Pu} {j : Nat} {x : Pu} (hx : ps[j]? = some x) (hA : x.1 ∈ A.map (·.1)) (hD : ded ps.reverse = A ++ (ded (ps.take (j + 1)).reverse).filter (fun y => y.1 ∉ A.map (·.1))) : ded ps.reverse = A ++ (ded (ps.take j).reverse).filter (fun y => y.1 ∉ A.map (·.1)) := by
  rw [take_rev hx, ded_skip hA] at hD
  exact hD
theorem L2Rel.more {ps A : List Pu} {j : Nat} {x : Pu} (hx : ps[j]? = some x) (hA : x.1 ∉ A.map (·.1)) (hD : ded ps.reverse = A ++ (ded (ps.take (j + 1)).reverse).filter (fun y => y.1 ∉ A.map (·.1))) : ded ps.reverse = (A ++ [x]) ++ (ded (ps.take j).reverse).filter (fun y => y.1 ∉ (A ++ [x]).map (·.1)) := by
  rw [take_rev hx, ded_more hA] at hD
  rw [hD, List.append_assoc, List.map_append]
  rfl
theorem L2Rel.got {ps A : List Pu} {j n k : Nat} {x : Pu} {T : Nat → List Pu} (hx : ps[j]? = some x) (hA : x.1 ∉ A.map (·.1)) (hD : ded ps.reverse = A ++ (ded (ps.take (j + 1)).reverse).filter (fun y => y.1 ∉ A.map (·.1))) (hT : T 0 = (ded ps.reverse).take n) : getT 1 k T x.1 = if A.length < n then (x.2, true) else (0, false) := by
  rw [take_rev hx, ded_more hA] at hD
  unfold getT getS
  rw [if_neg (by decide), rowN_one, hT, hD, find_take n (fun y hy e => hA (List.mem_map.2 ⟨y, hy, e⟩))]
  by_cases e : A.length < n
  · rw [if_pos e, if_pos e]
  · rw [if_neg e, if_neg e]
theorem low (m x : Int) (h0 : 0 < m) (h1 : m ≤ 1000) : ∃ k : Nat, (k : Int) < m ∧ (wrap64 (x.tmod m + m)).tmod m = (k : Int) := by
  have h2 := Int.tmod_lt_of_pos x h0
  have h3 := Int.lt_tmod_of_pos x h0
  have e : wrap64 (x.tmod m + m) = x.tmod m + m := by unfold wrap64; omega
  rw [e, Int.tmod_eq_emod_of_nonneg (by omega)]
  have h4 := Int.emod_lt_of_pos (x.tmod m + m) h0
  have h5 := Int.emod_nonneg (x.tmod m + m) (show m ≠ 0 by omega)
  exact ⟨((x.tmod m + m) % m).toNat, by omega, by omega⟩
theorem seen_app {w : World} {base : Nat} {a : Option Addr} {cap : Nat} {K : List Cp} {n : Nat} (h : Ow w base 34 3 a n cap (caps K)) (c : Cp) (hb : base ≤ w.heap.size) (hr : (n + 1) * 24 ≤ 140737488355328) :
    ∃ a' c' w', (Builtin.append_ #[22, 22] 22 #[.slice a n cap, .slice (some ⟨w.heap.size, 0, none⟩) 1 1]).run Try.prog (w.alloc (Obj.cells #[.int .i64 c.1, .int .u64 (c.2.1 : Int), .int .u64 (c.2.2 : Int)] 34)) = .ok (.slice a' (n + 1) c') w' ∧ Ow w' base 34 3 a' (n + 1) c' (caps (K ++ [c])) ∧ Gr a a' w w' := by
  have hB := below1 w (Obj.cells #[.int .i64 c.1, .int .u64 (c.2.1 : Int), .int .u64 (c.2.2 : Int)] 34)
  obtain ⟨a', c', w', hrun, hO, hG⟩ := append_k 22 34 _ 3 24 Try.underlying22 info34 rfl (by decide) (by decide) (h.later hB) (Cr.lit w 34 (encC c) (encC_one c)) (Nat.le_trans hb hB.size) hr
  exact ⟨a', c', w', hrun, by rw [caps_snoc]; exact hO, hG.pre hB⟩
set_option maxRecDepth 100000 in
set_option maxHeartbeats 4000000 in
theorem last_any (ways knob : Int) (w : World) {ap ar : Option Addr} {np cp nr cr : Nat} {C : List Cp} {L : List Int} (hp : Rd w ap np C) (hC : ∀ c ∈ C, okC c) (hr : Row w ar nr cr (ints L)) (hb : np * 24 ≤ 140737488355328) (hnr : nr ≤ 9223372036854775807) :
    Calls Try.prog 4 #[.int .i64 ways, .int .i64 knob, .slice ap np cp, .slice ar nr cr] w fun e w' => e = .returned (.bool true) ∧ Below w.heap.size w w' := by
  have hl := hp.len
  subst hl
  have HP := hid hp
  have HR := hid hr
  have HOK := hid hC
  have HBN := hid hb
  have hCn : C.length ≤ 9223372036854775807 := by omega
  clear hp hr hC hb
  obtain ⟨n0, hn0, hN0⟩ := low 4 ways (by decide) (by decide)
  obtain ⟨k, hk0, hK0⟩ := low 65 knob (by decide) (by decide)
  have hn4 : wrap64 (1 + (n0 : Int)) = ((n0 + 1 : Nat) : Int) := by unfold wrap64; omega
  obtain ⟨n, hn⟩ : ∃ n, n = n0 + 1 := ⟨_, rfl⟩
  rw [← hn] at hn4
  have h1 : 1 ≤ n := by omega
  have h4 : n ≤ 4 := by omega
  have hk64 : k ≤ 64 := by omega
  have hNew := hid (knew 1 n k w (by decide) h1 h4 hk64)
  have HN4 := hid hn4
  clear hn hn0 hk0 hn4
  go_enter Try.func4, Try.ntmps4
  go_upto_region 2 with fail
  rw [HN4.out]
  clear hN0 HN4
  go_upto_region 3 with (first | (go_at_call 6; refine hNew.out.mono ?_; rintro e w1 ⟨g, rfl, hk1, hg1, hb1⟩; have HK1 := hid hk1; have HG := hid hg1; have HB1 := hid hb1; clear hk1 hg1 hb1))
  clear hK0 hNew
  have hal := hid (alive_any w1)
  go_upto_region 5 with (first | (go_at_call 7; refine (num_any _ _).mono ?_; rintro e w9 ⟨rfl, hw9⟩; obtain rfl := hw9.symm; clear hw9) | (go_at_call 8; refine hal.out.mono ?_; rintro e w2 ⟨rfl, hb2⟩; have HB2 := hid hb2; clear hb2))
  clear hal
  have HK2 := hid (HK1.out.later HB2.out)
  have HBel : Hid (∀ U : World, But (fun x => x = g) w2 U → Below w.heap.size w U) := fun U hU => But.below (below_call HB1.out HB2.out) hU (fun x hx => by have := HG.out; omega)
  clear HB1 HB2 HK1
  obtain ⟨ps, hps⟩ : ∃ ps, ps = prs C L := ⟨_, rfl⟩
  have HPL : Hid (ps.length = C.length) := by rw [hps]; exact prs_length C L
  have HPG : Hid (∀ (i : Nat) (c : Cp), C[i]? = some c → ps[i]? = some (c, rightN L i)) := fun i c h => by rw [hps]; exact prs_get h
  clear hps
  go_upto_region 6 with fail
  go_loopw [12] (L1Rel w2 g n k ps) (fun t _ => C.length - (intOf t).toNat)
  case atStart => exact ⟨0, T0, by omega, rfl, by simp [T0, ded], HK2.out, But.refl _ _⟩
  case round =>
    obtain ⟨i, T, hi, rfl, hT, hK, hB⟩ := hrel
    rw [HPL.out] at hi
    have HT := hid hT
    have HK := hid hK
    have HB := hid hB
    clear hT hK hB
    by_cases hlt : i < C.length
    · have hd : decide ((i : Int) < (C.length : Int)) = true := decide_eq_true (by omega)
      obtain ⟨c, hc⟩ : ∃ c, C[i]? = some c := ⟨_, List.getElem?_eq_getElem hlt⟩
      obtain ⟨b, o, rfl, hat⟩ := HP.out.at_ (by omega)
      have HX : Hid (∀ U : World, Below w.heap.size w U → (U.cell? ⟨b, o + i * 3, none⟩ = some (.int .i64 c.1) ∧ U.cell? ⟨b, o + i * 3 + 1, none⟩ = some (.int .u64 (c.2.1 : Int)) ∧ U.cell? ⟨b, o + i * 3 + 2, none⟩ = some (.int .u64 (c.2.2 : Int))) ∧ Below w.heap.size w U) := fun U hU => by
        obtain ⟨x0, x1, x2⟩ := (hat i c hc).later hU
        exact ⟨⟨x0, x1, x2⟩, hU⟩
      have HPut := hid (kput (HK.out.later (Below.refl _ _).drew) c (rightN L i) (HOK.out c (List.mem_of_getElem? hc)))
      have HRt := hid (right_any ((HR.out.later (HBel.out _ HB.out)).later (Below.refl _ _).drew) i)
      have HXI := hid (HPG.out i c hc)
      clear hat hc
      generalize rightN L i = rr at HPut HRt HXI
      go_upto_region 8 with fail
      go_region_held3 (fun U => (U.cell? ⟨b, o + i * 3, none⟩ = some (.int .i64 c.1) ∧ U.cell? ⟨b, o + i * 3 + 1, none⟩ = some (.int .u64 (c.2.1 : Int)) ∧ U.cell? ⟨b, o + i * 3 + 2, none⟩ = some (.int .u64 (c.2.2 : Int))) ∧ Below w.heap.size w U) (first | exact HX.out _ (below_call (HBel.out _ HB.out) (Below.refl _ _).drew) | exact HX.out _ (HBel.out _ HB3.out)) (first | (go_at_call 9; refine HPut.out.mono ?_; rintro e w3 ⟨rfl, hk3, hb3⟩; have HK3 := hid hk3; have HB3 := hid (HB.out.trans ((But.of (Below.refl _ _).drew).trans hb3)); clear hk3 hb3) | (go_at_call 13; refine HRt.out.mono ?_; rintro e w9 ⟨rfl, hw9⟩; obtain rfl := hw9.symm; clear hw9))
      go_wp2
      exact ⟨L1Rel.next h1 HXI.out HT.out HK3.out HB3.out _ (by go_num), by simp [intOf]; omega⟩
    · obtain rfl : i = C.length := by omega
      have hd : decide ((C.length : Int) < (C.length : Int)) = false := decide_eq_false (by omega)
      have H0 : Hid (L2Rel w2 g n k ps (.slice none 0 0) (.int .i64 ((C.length : Int) - 1)) wr) := by
        refine ⟨C.length, T, [], none, 0, 0, 0, by rw [HPL.out]; omega, by rw [HPL.out]; simp, rfl, rfl, ?_, HK.out, ?_, Ow.nil _ _ _ _, HB.out⟩
        · rw [HT.out, ← HPL.out, List.take_length]
        · rw [← HPL.out, List.take_length, List.filter_eq_self.2 (fun y _ => by simp)]; rfl
      have hl1 : wrap64 ((C.length : Int) - 1) = (C.length : Int) - 1 := by unfold wrap64; omega
      clear HT HK HB
      go_upto_region 11 with fail
      go_loopw [13, 14] (L2Rel w2 g n k ps) (fun _ t _ => (intOf t + 1).toNat)
      case atStart => exact H0.out
      case round =>
        clear H0 hl1 hd hi hlt
        obtain ⟨m, T, A, a, cap, hi, mi, hm, hAm, rfl, rfl, hT, hK, hD, hO, hB⟩ := hrel
        rw [HPL.out] at hm hAm
        have HT := hid hT
        have HK := hid hK
        have HD := hid hD
        have HO := hid hO
        have HB := hid hB
        clear hT hK hD hO hB
        by_cases hm0 : m = 0
        · subst hm0
          go_wp2
          go_ret
          exact ⟨rfl, HBel.out _ HB.out⟩
        · obtain ⟨j, rfl⟩ : ∃ j, m = j + 1 := ⟨m - 1, by omega⟩
          rw [show ((j + 1 : Nat) : Int) - 1 = (j : Int) by omega]
          clear hm0
          obtain ⟨c, hc⟩ : ∃ c, C[j]? = some c := ⟨_, List.getElem?_eq_getElem (by omega)⟩
          obtain ⟨b, o, rfl, hat⟩ := HP.out.at_ (by omega)
          have HX : Hid (∀ U : World, Below w.heap.size w U → U.cell? ⟨b, o + j * 3, none⟩ = some (.int .i64 c.1) ∧ U.cell? ⟨b, o + j * 3 + 1, none⟩ = some (.int .u64 (c.2.1 : Int)) ∧ U.cell? ⟨b, o + j * 3 + 2, none⟩ = some (.int .u64 (c.2.2 : Int))) := fun U hU => by
            obtain ⟨x0, x1, x2⟩ := (hat j c hc).later hU
            exact ⟨x0, x1, x2⟩
          have HC := hid (HOK.out c (List.mem_of_getElem? hc))
          have HXI := hid (HPG.out j c hc)
          obtain ⟨rr, hrr⟩ : ∃ rr, rr = rightN L j := ⟨_, rfl⟩
          have HRt : Hid (∀ U : World, Below w.heap.size w U → Calls Try.prog 13 #[.slice ar nr cr, .int .i64 (j : Int)] U fun e w' => e = .returned (.int .i64 rr) ∧ w' = U) := fun U hU => by
            rw [hrr]; exact right_any (HR.out.later hU) j
          rw [← hrr] at HXI
          clear hat hc hrr
          obtain ⟨x0, x1, x2⟩ := HX.out wr (HBel.out wr HB.out)
          have hAm2 := hid (among_any (cap := cap) (HO.out.rd (by simp)) c (by omega))
          by_cases hin : c ∈ A.map (·.1)
          · rw [decide_eq_true hin] at hAm2
            have HD2 := hid (L2Rel.skip HXI.out hin HD.out)
            clear HD
            go_wp2_with (first | (go_at_call 14; refine hAm2.out.mono ?_; rintro e w3 ⟨rfl, hb3⟩; have HB3 := hid hb3; clear hb3))
            exact ⟨⟨j, T, A, a, cap, hi, mi, by rw [HPL.out]; omega, by rw [HPL.out]; omega, rfl, by go_num, HT.out, HK.out.later HB3.out, HD2.out, HO.out.later HB3.out, HB.out.call HB3.out⟩, by simp only [intOf]; omega⟩
          · rw [decide_eq_false hin] at hAm2
            have HD2 := hid (L2Rel.more HXI.out hin HD.out)
            have HGT := hid (L2Rel.got (k := k) HXI.out hin HD.out HT.out)
            clear HD
            go_upto_region 14 with (first | (go_at_call 14; refine hAm2.out.mono ?_; rintro e w3 ⟨rfl, hb3⟩; have HB3 := hid hb3; clear hb3))
            clear x0 x1 x2
            have HB4 := hid (HB.out.call HB3.out)
            obtain ⟨x0, x1, x2⟩ := HX.out w3 (HBel.out w3 HB4.out)
            obtain ⟨a5, cap5, w5, hrun5, hO5, hG5⟩ := seen_app (HO.out.later HB3.out) c HB4.out.size (by have := HBN.out; omega)
            have HRUN := hid hrun5
            have HB5 : Hid (But (fun x => x = g) w2 w5) := HB4.out.comp hG5.but (fun i hi => .inr (HO.out.blk i hi).1)
            have HK5 := hid ((HK.out.later HB3.out).but hG5.but (fun e => by have := (HO.out.blk g e).1; have := HK2.out.lt; omega))
            have HO5 := hid hO5
            clear hrun5 hO5 hG5
            go_upto_region 15 with (first | (at_builtin; refine wpList_append_known rfl _ _ 22 rfl _ _ rfl rfl _ w5 HRUN.out ?_))
            clear x0 x1 x2
            obtain ⟨x0, x1, x2⟩ := HX.out w5 (HBel.out w5 HB5.out)
            have hGet := hid (kget HK5.out c HC.out)
            by_cases hA : A.length < n
            · rw [HGT.out, if_pos hA] at hGet
              have hle : decide ((A.length : Int) + 1 ≤ (n : Int)) = true := decide_eq_true (by omega)
              go_upto_region 16 with (first | (go_at_call 12; refine hGet.out.mono ?_; rintro e w6 ⟨rfl, hk6, hb6⟩; have HK6 := hid hk6; have HB6' := hid hb6; have HB6 := hid (HB5.out.trans hb6); clear hk6 hb6))
              have hRt6 := hid (HRt.out w6 (HBel.out w6 HB6.out))
              clear x0 x1 x2
              go_wp2_with (first | (go_at_call 13; refine hRt6.out.mono ?_; rintro e w9 ⟨rfl, hw9⟩; obtain rfl := hw9.symm; clear hw9))
              have HO6 : Hid (Ow w6 w2.heap.size 34 3 a5 (A ++ [(c, rr)]).length cap5 (caps ((A ++ [(c, rr)]).map (·.1)))) := by
                rw [List.map_append, List.length_append]
                exact HO5.out.but HB6'.out (fun x hx e => by have := (HO5.out.blk x hx).1; have := HK2.out.lt; omega)
              exact ⟨⟨j, T, A ++ [(c, rr)], a5, cap5, _, _, by rw [HPL.out]; omega, by rw [HPL.out, List.length_append]; simp only [List.length_cons, List.length_nil]; omega, by simp, by go_num, HT.out, HK6.out, HD2.out, HO6.out, HB6.out⟩, by simp only [intOf]; omega⟩
            · rw [HGT.out, if_neg hA] at hGet
              have hle : decide ((A.length : Int) + 1 ≤ (n : Int)) = false := decide_eq_false (by omega)
              go_upto_region 16 with (first | (go_at_call 12; refine hGet.out.mono ?_; rintro e w6 ⟨rfl, hk6, hb6⟩; have HK6 := hid hk6; have HB6' := hid hb6; have HB6 := hid (HB5.out.trans hb6); clear hk6 hb6))
              clear x0 x1 x2
              go_wp2
              have HO6 : Hid (Ow w6 w2.heap.size 34 3 a5 (A ++ [(c, rr)]).length cap5 (caps ((A ++ [(c, rr)]).map (·.1)))) := by
                rw [List.map_append, List.length_append]
                exact HO5.out.but HB6'.out (fun x hx e => by have := (HO5.out.blk x hx).1; have := HK2.out.lt; omega)
              exact ⟨⟨j, T, A ++ [(c, rr)], a5, cap5, _, _, by rw [HPL.out]; omega, by rw [HPL.out, List.length_append]; simp only [List.length_cons, List.length_nil]; omega, by simp, by go_num, HT.out, HK6.out, HD2.out, HO6.out, HB6.out⟩, by simp only [intOf]; omega⟩
end Go.Proofs.Ythlojdclncikiaa
