import Derived.Test.YtcagghfkomodlaaB5
namespace Go.Proofs.Ytcagghfkomodlaa
open Go.RowKit
set_option linter.unusedVariables false
set_option linter.unusedSimpArgs false
variable {w w' : World} {base g : Nat} {m : Int} {pa : Option Addr} {cap : Nat} {K : List Cp}

/-- What stands at a place. -/
def atC (K : List Cp) (i : Int) : Cp := (K[i.toNat]?).getD (0, 0, 0)
def pickE (m : Int) (K : List Cp) (P : List Int) : Int := if P.all (okI K) = true then (if m < (P.length : Int) then 14 else 0) else 15
def pickL (m : Int) (K : List Cp) (P : List Int) : List Cp := if pickE m K P = 0 then P.map (atC K) else []
theorem pick_bad {P : List Int} (h : P.all (okI K) = false) : pickE m K P = 15 ∧ pickL m K P = [] := by
  have h1 : pickE m K P = 15 := by unfold pickE; rw [if_neg (by rw [h]; decide)]
  exact ⟨h1, by unfold pickL; rw [h1, if_neg (by decide)]⟩
theorem pick_long {P : List Int} (h : P.all (okI K) = true) (hm : m < (P.length : Int)) : pickE m K P = 14 ∧ pickL m K P = [] := by
  have h1 : pickE m K P = 14 := by unfold pickE; rw [if_pos h, if_pos hm]
  exact ⟨h1, by unfold pickL; rw [h1, if_neg (by decide)]⟩
theorem pick_good {P : List Int} (h : P.all (okI K) = true) (hm : ¬ m < (P.length : Int)) : pickE m K P = 0 ∧ pickL m K P = P.map (atC K) := by
  have h1 : pickE m K P = 0 := by unfold pickE; rw [if_pos h, if_neg hm]
  exact ⟨h1, by unfold pickL; rw [h1, if_pos rfl]⟩
theorem all_false {P : List Int} {j : Nat} {x : Int} (hx : P[j]? = some x) (hb : okI K x = false) : P.all (okI K) = false := by
  rw [List.all_eq_false]
  exact ⟨x, List.mem_of_getElem? hx, by rw [hb]; decide⟩
theorem all_true {P : List Int} (h : ∀ k, k < P.length → ∀ x, P[k]? = some x → okI K x = true) : P.all (okI K) = true := by
  rw [List.all_eq_true]
  intro x hx
  obtain ⟨k, hk⟩ := List.getElem?_of_mem hx
  exact h k (List.getElem?_eq_some_iff.1 hk).1 x hk
theorem atC_ok {x : Int} (h : okI K x = true) : ∃ k : Nat, x = (k : Int) ∧ k < K.length ∧ K[k]? = some (atC K x) := by
  obtain ⟨h1, h2⟩ := okI_iff.1 h
  refine ⟨x.toNat, by omega, by omega, ?_⟩
  unfold atC
  rw [List.getElem?_eq_getElem (show x.toNat < K.length by omega)]
  rfl
theorem pick_copy {b gg n nK j x : Nat} {M : List Cp} {c : Cp} (h : Ow w base 35 3 (some ⟨gg, 0, none⟩) nK cap (caps K)) (hc : K[x]? = some c) (ho : Ow w b 35 3 (some ⟨b, 0, none⟩) n n (caps M)) (hm : M.length = n) (hj : j < n) :
    ∃ w', (Builtin.copy_ #[22, 22] 3 #[.slice (some ⟨b, j * 3, none⟩) (n - j) (n - j), .slice (some ⟨gg, x * 3, none⟩) 1 1]).run Try.prog w = .ok (.int .i64 1) w' ∧ But (· = b) w w' ∧ Ow w' b 35 3 (some ⟨b, 0, none⟩) n n (caps (M.set j c)) := by
  have hmin : Nat.min 1 (n - j) = 1 := Nat.min_eq_left (by omega)
  have hcl : (caps [c]).length = 3 := by rw [caps_length]; rfl
  have hrun := run_copy_k (P := Try.prog) w 22 22 3 35 3 b (j * 3) (n - j) (n - j) ⟨gg, x * 3, none⟩ 1 1 (caps [c]) Try.underlying22 size35 (by rw [hcl, hmin]) (fun i v hv => by
    refine caps_cells h x i v ?_
    have e : K.drop x = [c] ++ K.drop (x + 1) := by
      obtain ⟨h1, h2⟩ := List.getElem?_eq_some_iff.1 hc
      rw [List.drop_eq_getElem_cons h1, h2]
      rfl
    rw [e, caps_append, List.getElem?_append_left (List.getElem?_eq_some_iff.1 hv).1]
    exact hv) (fun i hi => ho.some_ (by omega)) (fun i _ => ho.fr _) (caps_one _)
  rw [hmin] at hrun
  refine ⟨_, hrun, But.setCells (S := (· = b)) (b := b) (by rfl) _ _ (But.refl _ _), ?_⟩
  have := Ow.setCells (caps [c]) (j * 3) w _ ho
  rw [setL_caps _ _ _ (by simp; omega)] at this
  rw [List.set_eq_take_append_cons_drop, if_pos (by omega)]
  simpa using this
def P1Rel (w : World) (K : List Cp) (P : List Int) (t : Value) (w' : World) : Prop :=
  ∃ j : Nat, j ≤ P.length ∧ t = .int .i64 (j : Int) ∧ (∀ k, k < j → ∀ x, P[k]? = some x → okI K x = true) ∧ w = w'
def P2Rel (w : World) (b : Nat) (K : List Cp) (P : List Int) (t : Value) (w' : World) : Prop :=
  ∃ (j : Nat) (M : List Cp), j ≤ P.length ∧ t = .int .i64 (j : Int) ∧ M.length = P.length ∧ (∀ k, k < j → ∀ x, P[k]? = some x → M[k]? = some (atC K x)) ∧ Ow w' b 35 3 (some ⟨b, 0, none⟩) P.length P.length (caps M) ∧ Below w.heap.size w w'
set_option maxRecDepth 100000 in
set_option maxHeartbeats 2000000 in
theorem pick_any {a : Option Addr} {np cp : Nat} {P : List Int} (h : Dm w base g m pa cap K) (hP : Row w a np cp (ints P)) (hn : np ≤ 9223372036854775807) (hL : K.length ≤ 32) (hm : m ≤ 32) :
    Calls Try.prog 15 #[.pointer (some ⟨g, 0, none⟩), .slice a np cp] w fun e w' => ∃ p c, e = .returned (.tuple #[.slice p (pickL m K P).length c, .int .i64 (pickE m K P)]) ∧ Ow w' w.heap.size 35 3 p (pickL m K P).length c (caps (pickL m K P)) ∧ Below w.heap.size w w' := by
  have hl : P.length = np := by have := hP.len; rwa [ints_length] at this
  subst hl
  have HH := hid h
  have HP := hid hP
  have c0 := h.c0
  have hha := hid (fun i => has_any h i)
  clear h hP
  obtain ⟨E, hE⟩ : ∃ E, E = pickE m K P := ⟨_, rfl⟩
  obtain ⟨L, hLL⟩ : ∃ L, L = pickL m K P := ⟨_, rfl⟩
  rw [← hE, ← hLL]
  have HE := hid hE
  have HLL := hid hLL
  clear hE hLL
  go_enter Try.func15, Try.ntmps15
  go_wp2
  go_loopw [13] (P1Rel w K P) (fun t _ => P.length - (intOf t).toNat)
  case atStart => exact ⟨0, Nat.zero_le _, rfl, fun k hk => absurd hk (Nat.not_lt_zero _), rfl⟩
  case round =>
    obtain ⟨j, hj, rfl, hok, rfl⟩ := hrel
    have HOK := hid hok
    clear hok
    by_cases hlt : j < P.length
    · have hd : decide ((j : Int) < (P.length : Int)) = true := decide_eq_true (by omega)
      obtain ⟨b1, o1, rfl, h1⟩ := HP.out.plain (by omega)
      have y1 := h1 j _ (ints_get P j hlt)
      obtain ⟨x, hx⟩ : ∃ x, x = P[j] := ⟨_, rfl⟩
      rw [← hx] at y1
      have HX : Hid (P[j]? = some x) := by rw [hx]; exact List.getElem?_eq_getElem hlt
      clear h1 hx
      by_cases hb : okI K x = true
      · have hhx := hid (hha.out x)
        rw [hb] at hhx
        go_wp2_with (first | (go_at_call 20; refine hhx.out.mono ?_; rintro e w9 ⟨rfl, hw9⟩; obtain rfl := hw9.symm; clear hw9))
        go_roundw
        case rel =>
          refine ⟨j + 1, by omega, by go_num, fun k hk y hy => ?_, rfl⟩
          rcases Nat.lt_or_ge k j with h3 | h3
          · exact HOK.out k h3 y hy
          · obtain rfl : k = j := by omega
            rw [HX.out] at hy
            cases hy
            exact hb
        case measure => simp [intOf]; omega
      · have hb2 : okI K x = false := by simpa using hb
        have hhx := hid (hha.out x)
        rw [hb2] at hhx
        obtain ⟨e1, e2⟩ := pick_bad (m := m) (all_false HX.out hb2)
        rw [← HE.out] at e1
        rw [← HLL.out] at e2
        subst e1 e2
        go_wp2_with (first | (go_at_call 20; refine hhx.out.mono ?_; rintro e w9 ⟨rfl, hw9⟩; obtain rfl := hw9.symm; clear hw9))
        exact bodyPost_ret (v := .tuple #[.slice none 0 0, .int .i64 15]) (by simp [results, Try.results15, go_sem]) rfl ⟨none, 0, rfl, Ow.nil _ _ _ _, Below.refl _ _⟩
    · obtain rfl : j = P.length := by omega
      have hall := all_true HOK.out
      have hd : decide ((P.length : Int) < (P.length : Int)) = false := by simp
      by_cases hbig : m < (P.length : Int)
      · obtain ⟨e1, e2⟩ := pick_long hall hbig
        rw [← HE.out] at e1
        rw [← HLL.out] at e2
        subst e1 e2
        have hd2 : decide ((P.length : Int) > m) = true := decide_eq_true hbig
        go_wp2
        exact bodyPost_ret (v := .tuple #[.slice none 0 0, .int .i64 14]) (by simp [results, Try.results15, go_sem]) rfl ⟨none, 0, rfl, Ow.nil _ _ _ _, Below.refl _ _⟩
      · obtain ⟨e1, e2⟩ := pick_good hall hbig
        rw [← HE.out] at e1
        rw [← HLL.out] at e2
        subst e1 e2
        have hd2 : decide ((P.length : Int) > m) = false := decide_eq_false hbig
        obtain ⟨w1, hmk, hO1, hB1⟩ := make_caps w P.length (by omega)
        obtain ⟨b, hbb⟩ : ∃ b, b = w.heap.size := ⟨_, rfl⟩
        rw [← hbb] at hmk hO1
        have HBE := hid hbb
        have hPn : P.length ≤ 32 := by omega
        have HAL := hid hall
        have H0 : Hid (P2Rel w b K P (.int .i64 0) w1) := ⟨0, List.replicate P.length (0, 0, 0), Nat.zero_le _, rfl, by simp, fun k hk => absurd hk (Nat.not_lt_zero _), hO1, hB1⟩
        clear hO1 hB1 hbb hall
        go_upto_region 11 with fail
        go_loopw [34] (P2Rel w b K P) (fun t _ => P.length - (intOf t).toNat)
        case atStart => exact H0.out
        case round =>
          obtain ⟨j, M, hj, rfl, hMl, hM, hO, hB⟩ := hrel
          have HO := hid hO
          have HB := hid hB
          have HM := hid hM
          clear hO hB hM H0 hmk
          by_cases hlt : j < P.length
          · have hd : decide ((j : Int) < (P.length : Int)) = true := decide_eq_true (by omega)
            obtain ⟨x, hx⟩ : ∃ x, P[j]? = some x := ⟨_, List.getElem?_eq_getElem hlt⟩
            obtain ⟨k, rfl, hk, hkc⟩ := atC_ok ((List.all_eq_true.1 HAL.out) x (List.mem_of_getElem? hx))
            obtain ⟨b1, o1, rfl, h1⟩ := (HP.out.later HB.out).plain (by omega)
            have y1 := h1 j (.int .i64 (k : Int)) (by simp only [ints, List.getElem?_map, hx, Option.map_some])
            have hD := HH.out.later HB.out
            obtain ⟨gg, rfl⟩ : ∃ gg, pa = some ⟨gg, 0, none⟩ := by
              rcases hD.own.form with ⟨_, h1, _⟩ | ⟨gg, h1, _⟩
              · omega
              · exact ⟨gg, h1⟩
            have hcu : Hid (Calls Try.prog 19 #[.pointer (some ⟨g, 0, none⟩), .int .i64 (k : Int), .int .i64 1] wr.drew fun e w' => e = .returned (.slice (some ⟨gg, k * 3, none⟩) 1 1) ∧ w' = wr.drew) := cut_more (hD.later (Below.refl _ _).drew) k 1 (by omega) (by omega) hL
            obtain ⟨w5, hrun, hb5, ho5⟩ := pick_copy (w := wr.drew) (hD.later (Below.refl _ _).drew).own hkc (HO.out.later (Below.refl _ _).drew) hMl hlt
            have HRUN := hid hrun
            have HO5 := hid ho5
            have HB5 : Hid (Below w.heap.size w w5) := But.below (HB.out.trans (Below.refl _ _).drew) hb5 (fun k e => by have := HBE.out; omega)
            have HX := hid hx
            have hne : ¬ P.length = j := by omega
            clear h1 hD hkc hrun hb5 ho5 hx
            go_upto_region 13 with fail
            go_region_held3 (fun U => True) (first | exact trivial) (first
              | (go_at_call 19; refine hcu.out.mono ?_; rintro e w9 ⟨rfl, hw9⟩; obtain rfl := hw9.symm; clear hw9)
              | (refine wp_copy_known (.tmp 41) (.tmp 44) 22 rfl _ _ rfl rfl _ w5 HRUN.out ?_))
            go_wp2
            refine ⟨⟨j + 1, M.set j (atC K (k : Int)), by omega, by go_num, by simp; omega, fun i hi y hy => ?_, HO5.out, HB5.out⟩, by simp [intOf]; omega⟩
            rw [List.getElem?_set]
            rcases Nat.lt_or_ge i j with h3 | h3
            · rw [if_neg (by omega)]
              exact HM.out i h3 y hy
            · obtain rfl : i = j := by omega
              rw [HX.out] at hy
              cases hy
              rw [if_pos rfl, if_pos (by omega)]
          · obtain rfl : j = P.length := by omega
            have hML : M = P.map (atC K) := by
              apply List.ext_getElem?
              intro i
              rcases Nat.lt_or_ge i P.length with h3 | h3
              · rw [HM.out i h3 P[i] (List.getElem?_eq_getElem h3), List.getElem?_map, List.getElem?_eq_getElem h3]
                rfl
              · rw [List.getElem?_eq_none (by omega), List.getElem?_eq_none (by simp; omega)]
            subst hML
            have HLE : Hid ((P.map (atC K)).length = P.length) := by simp [Hid]
            go_wp2
            refine bodyPost_ret (v := .tuple #[.slice (some ⟨b, 0, none⟩) P.length P.length, .int .i64 0]) (by simp [results, Try.results15, go_sem]) rfl ⟨some ⟨b, 0, none⟩, P.length, by rw [HLE.out], ?_, HB.out⟩
            rw [HLE.out, ← HBE.out]
            exact HO.out
end Go.Proofs.Ytcagghfkomodlaa
