import Derived.Test.YtcagghfkomodlaaR3
namespace Go.Proofs.Ytcagghfkomodlaa
open Go.RowKit
set_option linter.unusedVariables false
set_option linter.unusedSimpArgs false
variable {w w' : World} {base g : Nat} {m : Int} {pa : Option Addr} {cap : Nat} {K : List Cp}

def Q1Rel (w : World) (K : List Cp) (P : List Int) (s t : Value) (w' : World) : Prop :=
  ∃ (j : Nat) (a : Option Addr) (c : Nat), j ≤ P.length ∧ s = .slice a j c ∧ t = .int .i64 (j : Int) ∧ (∀ k, k < j → ∀ x, P[k]? = some x → okI K x = true) ∧ Ow w' w.heap.size 35 3 a j c (caps ((P.take j).map (atC K))) ∧ Below w.heap.size w w'
set_option maxRecDepth 100000 in
set_option maxHeartbeats 2000000 in
theorem rpick_any {a : Option Addr} {np cp : Nat} {P : List Int} (h : Dm w base g m pa cap K) (hP : Row w a np cp (ints P)) (hn : np ≤ 1048576) (hL : K.length ≤ 32) :
    Calls Try.prog 24 #[.pointer (some ⟨g, 0, none⟩), .slice a np cp] w fun e w' => ∃ p c, e = .returned (.tuple #[.slice p (pickL m K P).length c, .int .i64 (pickE m K P)]) ∧ Ow w' w.heap.size 35 3 p (pickL m K P).length c (caps (pickL m K P)) ∧ Below w.heap.size w w' := by
  have hl : P.length = np := by have := hP.len; rwa [ints_length] at this
  subst hl
  have HH := hid h
  have HP := hid hP
  clear h hP
  obtain ⟨E, hE⟩ : ∃ E, E = pickE m K P := ⟨_, rfl⟩
  obtain ⟨L, hLL⟩ : ∃ L, L = pickL m K P := ⟨_, rfl⟩
  rw [← hE, ← hLL]
  have HE := hid hE
  have HLL := hid hLL
  clear hE hLL
  go_enter Try.func24, Try.ntmps24
  go_upto_region 3 with fail
  go_loopw [6, 7] (Q1Rel w K P) (fun _ t _ => P.length - (intOf t).toNat)
  case atStart => exact ⟨0, none, 0, Nat.zero_le _, rfl, rfl, fun k hk => absurd hk (Nat.not_lt_zero _), by simpa [caps] using Ow.nil w w.heap.size 35 3, Below.refl _ _⟩
  case round =>
    obtain ⟨j, oa, oc, hj, rfl, rfl, hok, hO, hB⟩ := hrel
    have HOK := hid hok
    have HO := hid hO
    have HB := hid hB
    have HD := hid (HH.out.later hB)
    clear hok hO hB
    by_cases hlt : j < P.length
    · have hd : decide ((j : Int) < (P.length : Int)) = true := decide_eq_true (by omega)
      obtain ⟨b1, o1, rfl, h1⟩ := (HP.out.later HB.out).plain (by omega)
      obtain ⟨x, hx⟩ : ∃ x, P[j]? = some x := ⟨_, List.getElem?_eq_getElem hlt⟩
      have y1 := h1 j (.int .i64 x) (by simp only [ints, List.getElem?_map, hx, Option.map_some])
      have HX := hid hx
      clear h1 hx
      by_cases hb : okI K x = true
      · obtain ⟨k, rfl, hk, hkc⟩ := atC_ok hb
        obtain ⟨z, hz⟩ : ∃ z, z = atC K (k : Int) := ⟨_, rfl⟩
        rw [← hz] at hkc
        have HZ := hid hz
        have hat := hid (rat_ok HD.out k z hkc)
        clear hz hkc
        go_upto_region 6 with (first | (go_at_call 23; refine hat.out.mono ?_; rintro e w3 ⟨rfl, hb3⟩; have HB3 := hid hb3; clear hb3))
        obtain ⟨w4, hw4⟩ : ∃ w4, w4 = w3.alloc (Obj.cells #[.int .i64 z.1, .int .u64 (z.2.1 : Int), .int .u64 (z.2.2 : Int)] 35) := ⟨_, rfl⟩
        have hB34 : Below w3.heap.size w3 w4 := by rw [hw4]; exact below1 _ _
        obtain ⟨q0, q1, q2⟩ : Cel w4 w3.heap.size 0 z := by rw [hw4]; exact ⟨by simp [go_sem], by simp [go_sem], by simp [go_sem]⟩
        rw [← hw4]
        clear hw4 y1 hat
        have hB4 := below_call HB3.out hB34
        have hbx := below1 w4 (Obj.cells #[.int .i64 z.1, .int .u64 (z.2.1 : Int), .int .u64 (z.2.2 : Int)] 35)
        have hO4 := (HO.out.later hB4).later hbx
        obtain ⟨a5, c5, w5, hr5, ho5, hg5⟩ := append_k 22 35 _ 3 24 Try.underlying22 info35 rfl (by decide) (by decide) hO4 (Cr.lit w4 35 (encC z) (encC_one z)) (by have := HB.out.size; have := hB4.size; have := hbx.size; omega) (by omega)
        have HR5 := hid hr5
        have hO5 : Ow w5 w.heap.size 35 3 a5 (j + 1) c5 (caps ((P.take (j + 1)).map (atC K))) := by
          obtain ⟨e1, e2⟩ := List.getElem?_eq_some_iff.1 HX.out
          rw [List.take_succ_eq_append_getElem e1, e2, List.map_append, List.map_cons, List.map_nil, ← HZ.out, caps_snoc]
          exact ho5
        have HO5 := hid hO5
        have HB5 : Hid (Below w.heap.size w w5) := by
          have h6 := HB.out.trans ((below_call hB4 hbx).mono HB.out.size)
          exact h6.trans (Gr.below' hO4 hg5 h6.size)
        clear hB34 hB4 hbx hO4 hr5 ho5 hg5 hO5
        go_wp2_with (first | (at_builtin; refine wpList_append_known rfl _ _ 22 rfl _ _ rfl rfl _ w5 HR5.out ?_))
        refine ⟨⟨j + 1, a5, c5, by omega, rfl, by go_num, fun i hi y hy => ?_, HO5.out, HB5.out⟩, by simp [intOf]; omega⟩
        rcases Nat.lt_or_ge i j with h3 | h3
        · exact HOK.out i h3 y hy
        · obtain rfl : i = j := by omega
          rw [HX.out] at hy
          cases hy
          exact hb
      · have hb2 : okI K x = false := by simpa using hb
        have hat := hid (rat_bad HD.out x hb2)
        obtain ⟨e1, e2⟩ := pick_bad (m := m) (all_false HX.out hb2)
        rw [← HE.out] at e1
        rw [← HLL.out] at e2
        subst e1 e2
        go_wp2_with (first | (go_at_call 23; refine hat.out.mono ?_; rintro e w3 ⟨rfl, hb3⟩; have HB3 := hid hb3; clear hb3))
        exact bodyPost_ret (v := .tuple #[.slice none 0 0, .int .i64 15]) (by simp [results, Try.results24, go_sem]) rfl ⟨none, 0, rfl, Ow.nil _ _ _ _, HB.out.trans ((below_call HB3.out (below1 _ _)).mono HB.out.size)⟩
    · obtain rfl : j = P.length := by omega
      have hall := all_true HOK.out
      have hd : decide ((P.length : Int) < (P.length : Int)) = false := by simp
      have c0 := HD.out.c0
      rw [List.take_length] at HO
      by_cases hbig : m < (P.length : Int)
      · obtain ⟨e1, e2⟩ := pick_long hall hbig
        rw [← HE.out] at e1
        rw [← HLL.out] at e2
        subst e1 e2
        have hd2 : decide ((P.length : Int) > m) = true := decide_eq_true hbig
        go_wp2
        exact bodyPost_ret (v := .tuple #[.slice none 0 0, .int .i64 14]) (by simp [results, Try.results24, go_sem]) rfl ⟨none, 0, rfl, Ow.nil _ _ _ _, HB.out⟩
      · obtain ⟨e1, e2⟩ := pick_good hall hbig
        rw [← HE.out] at e1
        rw [← HLL.out] at e2
        subst e1 e2
        have hd2 : decide ((P.length : Int) > m) = false := decide_eq_false hbig
        go_wp2
        exact bodyPost_ret (v := .tuple #[.slice oa P.length oc, .int .i64 0]) (by simp [results, Try.results24, go_sem]) rfl ⟨oa, oc, rfl, HO.out, HB.out⟩
end Go.Proofs.Ytcagghfkomodlaa
