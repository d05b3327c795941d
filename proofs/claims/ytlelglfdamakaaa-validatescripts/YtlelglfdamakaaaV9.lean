import Derived.Test.YtlelglfdamakaaaMV
import Derived.Test.YtlelglfdamakaaaMB
namespace Go.Proofs.Ytlelglfdamakaaa
open Go.RowKit H
set_option linter.unusedVariables false

/-! ### Child -/
set_option maxRecDepth 100000 in
set_option maxHeartbeats 2000000 in
theorem child_of {w : World} {A : Ad} {kn mo : Nat} {X : List Tk} {l : Fo} (h : Cat w A kn mo X l) (p : Int) (c : Cp) (r : Int) (hw : c.2.1 < B64 ∧ c.2.2 < B64) :
    Calls Try.prog 10 #[.pointer (some ⟨A.g, 0, none⟩), .int .i64 p, cpV c, .int .i64 r] w (Done w A kn mo (childR mo X l p c r)) := by
  obtain ⟨o, hi, lo⟩ := c
  obtain ⟨w1, hw1⟩ : ∃ w1, w1 = w.alloc (Obj.cells #[.int .i64 o, .int .u64 (hi : Int), .int .u64 (lo : Int)] 32) := ⟨_, rfl⟩
  have hB1 : Below w.heap.size w w1 := by rw [hw1]; exact below1 _ _
  have HZ : Hid (∀ U, Below w1.heap.size w1 U → U.cell? ⟨w.heap.size, 0, none⟩ = some (.int .i64 o) ∧ U.cell? ⟨w.heap.size, 1, none⟩ = some (.int .u64 (hi : Int)) ∧ U.cell? ⟨w.heap.size, 2, none⟩ = some (.int .u64 (lo : Int))) := fun U hU =>
    ⟨cell_later hU (by rw [hw1]; simp [go_sem]), cell_later hU (by rw [hw1]; simp [go_sem]), cell_later hU (by rw [hw1]; simp [go_sem])⟩
  have HB1 := hid hB1
  have HH := hid h
  have H1 := hid (h.later hB1)
  unfold childR
  clear h hB1
  by_cases hp : p ∈ nums l
  · rw [if_neg (fun hn => hn hp)]
    obtain ⟨q, hq⟩ := mem_nums.1 hp
    obtain ⟨cc, rr, hxx⟩ : ∃ cc rr, tk X p = (cc, rr) := ⟨_, _, rfl⟩
    have hob : ob X p = cc.1 := by unfold ob; rw [hxx]
    have hrg : rg X p = rr := by unfold rg; rw [hxx]
    have hA := at_in H1.out.cm p q hq
    rw [hrg, hxx] at hA
    have HAT := hid hA
    have HADD : Hid (ob X p = o → partB r (rg X p) = true → ∀ (U : World), Below w.heap.size w U → Calls Try.prog 30 #[.pointer (some ⟨A.g, 0, none⟩), .int .i64 p, .agg #[.int .i64 o, .int .u64 (hi : Int), .int .u64 (lo : Int)], .int .i64 r] U (Done U A kn mo (addR mo X l p (o, hi, lo) r))) :=
      fun ho hpt U hU => add_any (HH.out.later hU) p (o, hi, lo) r hw (partB_valid hpt) (.inr ⟨hp, ho, hpt⟩)
    rw [hob, hrg] at *
    obtain ⟨oo, hh, ll⟩ := cc
    clear hq hp hA hxx hob hrg
    simp only at *
    by_cases ho : oo = o
    · subst ho
      rw [if_neg (fun hn => hn rfl)]
      by_cases hpt : partB r rr = true
      · rw [if_neg (by rw [hpt]; decide)]
        have HA2 := hid (HADD.out rfl hpt)
        generalize addR mo X l p (oo, hi, lo) r = R at *
        go_enter Try.func10, Try.ntmps10
        go_upto_region 1 with fail
        rw [← hw1]
        clear hw1
        go_upto_region 4 with (first | (go_at_call 32; refine HAT.out.mono ?_; rintro e w2 ⟨rfl, hb2⟩; have HB2 := hid hb2; have hz := (HZ.out _ (hb2)).1; clear hb2))
        obtain ⟨w3, hw3⟩ : ∃ w3, w3 = w2.alloc (Obj.cells #[.int .i64 oo, .int .u64 (hh : Int), .int .u64 (ll : Int), .int .i64 rr, .int .i64 q] 83) := ⟨_, rfl⟩
        have hB3 : Below w2.heap.size w2 w3 := by rw [hw3]; exact below1 _ _
        have t0 : w3.cell? ⟨w2.heap.size, 0, none⟩ = some (.int .i64 oo) := by rw [hw3]; simp [go_sem]
        have t3 : w3.cell? ⟨w2.heap.size, 3, none⟩ = some (.int .i64 rr) := by rw [hw3]; simp [go_sem]
        obtain ⟨y0, y1, y2⟩ := HZ.out _ (below_call HB2.out hB3)
        have HB3 := hid (below_call (below_call HB1.out HB2.out) hB3)
        rw [← hw3]
        clear hw3 hB3 hz
        go_wp2_with (first | (go_at_call 30; refine (HA2.out _ HB3.out).mono ?_; rintro e w4 hd; have hd1 := hd.1; subst hd1; have HD := hid hd; clear hd) | (go_at_call 33; refine (part_any _ _ _).mono ?_; rintro e w9 ⟨rfl, hw9⟩; obtain rfl := hw9.symm; clear hw9; rw [hpt]))
        exact bodyPost_ret (v := .tuple #[.int .i64 R.num, .int .i64 R.code]) (by simp [results, Try.results10, go_sem]) rfl (HD.out.pre HB3.out)
      · have hpt' : partB r rr = false := by simpa using hpt
        rw [if_pos hpt']
        go_enter Try.func10, Try.ntmps10
        go_upto_region 1 with fail
        rw [← hw1]
        clear hw1
        go_upto_region 4 with (first | (go_at_call 32; refine HAT.out.mono ?_; rintro e w2 ⟨rfl, hb2⟩; have HB2 := hid hb2; have hz := (HZ.out _ (hb2)).1; clear hb2))
        obtain ⟨w3, hw3⟩ : ∃ w3, w3 = w2.alloc (Obj.cells #[.int .i64 oo, .int .u64 (hh : Int), .int .u64 (ll : Int), .int .i64 rr, .int .i64 q] 83) := ⟨_, rfl⟩
        have hB3 : Below w2.heap.size w2 w3 := by rw [hw3]; exact below1 _ _
        have t0 : w3.cell? ⟨w2.heap.size, 0, none⟩ = some (.int .i64 oo) := by rw [hw3]; simp [go_sem]
        have t3 : w3.cell? ⟨w2.heap.size, 3, none⟩ = some (.int .i64 rr) := by rw [hw3]; simp [go_sem]
        obtain ⟨y0, y1, y2⟩ := HZ.out _ (below_call HB2.out hB3)
        have HB3 := hid (below_call (below_call HB1.out HB2.out) hB3)
        rw [← hw3]
        clear hw3 hB3 hz
        go_wp2_with (first | (go_at_call 33; refine (part_any _ _ _).mono ?_; rintro e w9 ⟨rfl, hw9⟩; obtain rfl := hw9.symm; clear hw9; rw [hpt']))
        exact bodyPost_ret (v := .tuple #[.int .i64 0, .int .i64 4]) (by simp [results, Try.results10, go_sem]) rfl (Done.same HH.out HB3.out)
    · rw [if_pos ho]
      have hbn : (oo == o) = false := by simp [ho]
      go_enter Try.func10, Try.ntmps10
      go_upto_region 1 with fail
      rw [← hw1]
      clear hw1
      go_upto_region 4 with (first | (go_at_call 32; refine HAT.out.mono ?_; rintro e w2 ⟨rfl, hb2⟩; have HB2 := hid hb2; have hz := (HZ.out _ (hb2)).1; clear hb2))
      obtain ⟨w3, hw3⟩ : ∃ w3, w3 = w2.alloc (Obj.cells #[.int .i64 oo, .int .u64 (hh : Int), .int .u64 (ll : Int), .int .i64 rr, .int .i64 q] 83) := ⟨_, rfl⟩
      have hB3 : Below w2.heap.size w2 w3 := by rw [hw3]; exact below1 _ _
      have t0 : w3.cell? ⟨w2.heap.size, 0, none⟩ = some (.int .i64 oo) := by rw [hw3]; simp [go_sem]
      obtain ⟨y0, y1, y2⟩ := HZ.out _ (below_call HB2.out hB3)
      have HB3 := hid (below_call (below_call HB1.out HB2.out) hB3)
      rw [← hw3]
      clear hw3 hB3 hz
      go_wp2
      exact bodyPost_ret (v := .tuple #[.int .i64 0, .int .i64 3]) (by simp [results, Try.results10, go_sem]) rfl (Done.same HH.out HB3.out)
  · rw [if_pos hp]
    have HAT := hid (at_out H1.out.cm p hp)
    go_enter Try.func10, Try.ntmps10
    go_upto_region 1 with fail
    rw [← hw1]
    clear hw1
    go_wp2_with (first | (go_at_call 32; refine HAT.out.mono ?_; rintro e w2 ⟨rfl, hb2⟩; have HB2 := hid hb2; clear hb2))
    exact bodyPost_ret (v := .tuple #[.int .i64 0, .int .i64 20]) (by simp [results, Try.results10, go_sem]) rfl (Done.same HH.out ((below_call HB1.out HB2.out).alloc (below_call HB1.out HB2.out).size _))

/-! ### New -/
theorem info126 : (Try.prog.info? 126).map (fun i => (i.zero, i.size, i.bytes)) = some (some (.agg #[.int .i64 0, .int .u64 0, .int .u64 0, .int .i64 0]), 4, 32) := by kernel_rfl
theorem make_ents (w : World) (n : Nat) (hn : n ≤ 1024) :
    ∃ w', (Instr.makeSlice 74 (.int .i64 (n : Int)) (.int .i64 (n : Int))).run Try.prog w = .ok (.slice (some ⟨w.heap.size, 0, none⟩) n n) w' ∧ (∀ (i : Nat) (p : Tk), (List.replicate n tz)[i]? = some p → Pe w' w.heap.size (i * 4) p) ∧ (∀ j, w'.frozen? ⟨w.heap.size, j, none⟩ = false) ∧ w.heap.size < w'.heap.size ∧ Below w.heap.size w w' := by
  obtain ⟨i, hi, hz0, hz1, hz2⟩ := info_parts info126
  obtain ⟨w', hr, ho, hg⟩ := run_make_full (P := Try.prog) w w.heap.size 74 126 i _ 4 Try.underlying74 hi hz0 hz1 .i64 .i64 n (by rw [hz2]; omega) (by unfold maxLen; omega) (Nat.le_refl _)
  have hcell : ∀ j c u, j < n → c < 4 → (#[.int .i64 0, .int .u64 0, .int .u64 0, .int .i64 0] : Array Value)[c]! = u → w'.cell? ⟨w.heap.size, j * 4 + c, none⟩ = some u := by
    intro j c u hj hc hu
    have hm : (j * 4 + c) % 4 = c := by omega
    have := ho.cells (g := w.heap.size) rfl (j * 4 + c) u (by
      rw [Array.getElem?_toList]
      simp only [madeCells, Value.cells, Array.getElem?_map, Array.getElem?_range]
      rw [if_pos (by omega)]
      simp only [Option.map_some, Option.some.injEq, Array.size, List.length, hm]
      exact hu)
    rw [addr_add0] at this
    exact this
  refine ⟨w', hr, fun j p hp => ?_, fun j => ?_, ?_, (Below.refl _ _).grown hg (Nat.le_refl _) (fun k hk => by cases hk)⟩
  · rw [List.getElem?_replicate] at hp
    split at hp
    · next hj =>
      have := (Option.some.inj hp).symm
      subst this
      exact ⟨hcell j 0 _ hj (by omega) rfl, hcell j 1 _ hj (by omega) rfl, hcell j 2 _ hj (by omega) rfl, hcell j 3 _ hj (by omega) rfl⟩
    · cases hp
  · rcases ho.2 with ⟨h0, _⟩ | ⟨g, c, cur, hv, _, hh, hc, _⟩
    · simp at h0
    · simp only [Value.slice.injEq, Option.some.injEq, Addr.mk.injEq] at hv
      obtain ⟨⟨rfl, _⟩, _, rfl⟩ := hv
      simp [World.frozen?, hh]
  · exact (own_block ho _ rfl).2
/-- Behind New. -/
def NewC (w : World) (kn mo : Nat) (e : Ending) (w' : World) : Prop :=
  ∃ A : Ad, e = .returned (.tuple #[.pointer (some ⟨A.g, 0, none⟩), .int .i64 0]) ∧ Cat w' A kn mo (List.replicate mo tz) [] ∧ (∀ k, A.All k → w.heap.size ≤ k) ∧ Below w.heap.size w w'
set_option maxRecDepth 100000 in
set_option maxHeartbeats 2000000 in
theorem cnew_ok (w : World) (mo kn : Nat) (h1 : 1 ≤ mo) (h2 : mo ≤ 256) (h3 : kn ≤ 64) : Calls Try.prog 24 #[.int .i64 (mo : Int), .int .i64 (kn : Int)] w (NewC w kn mo) := by
  go_enter Try.func24, Try.ntmps24
  go_upto_region 7 with (first
    | (go_at_call 51; refine (new_ok _ mo (by omega)).mono ?_; rintro e w2 ⟨kg, kb, rfl, hk, hk1, hk2, hb2⟩; have HB2 := hid (below_call HB1.out hb2); have HT2 := hid (HT1.out.later hb2); have HK2 := hid hk; have HBK := hid hb2; have HS2 := hid (And.intro hk1 hk2); clear hk hk1 hk2 hb2)
    | (go_at_call 50; refine (I.new_ok _ mo kn h1 h2 h3).mono ?_; rintro e w1 ⟨tg, tb, N, rfl, ht, ht1, ht2, hb1⟩; have HB1 := hid hb1; have HT1 := hid ht; have HS1 := hid (And.intro ht1 ht2); clear ht ht1 ht2 hb1))
  obtain ⟨w3, hr, hE, hF, hsz, hb3⟩ := make_ents w2 mo (by omega)
  have HE := hid hE
  have HFr := hid hF
  have HB3 := hid hb3
  clear hE hF hb3
  go_wp2
  have hb4 : Below w3.heap.size w3 (w3.alloc (Obj.cells #[.pointer (some ⟨tg, 0, none⟩), .slice (some ⟨w2.heap.size, 0, none⟩) mo mo, .pointer (some ⟨kg, 0, none⟩)] 81)) := below1 _ _
  have ht3 := (HT2.out.later HB3.out).later hb4
  have hk3 := (HK2.out.later HB3.out).later hb4
  have l1 := HT1.out.lt
  have l2 := HT1.out.lt2
  have l3 := HK2.out.lt1
  have l4 := HBK.out.size
  have l5 := HB1.out.size
  have l6 := HS1.out
  have l7 := HS2.out
  have l8 := HB3.out.size
  refine bodyPost_ret (v := .tuple #[.pointer (some ⟨w3.heap.size, 0, none⟩), .int .i64 0]) (by simp [results, Try.results24, go_sem]) rfl ⟨⟨w3.heap.size, tg, tb, w2.heap.size, kg, kb, N⟩, rfl, ⟨⟨by simp [go_sem], by simp [go_sem], by simp [go_sem], ht3, hk3, fun i x hx => (HE.out i x hx).later hb4, fun j => ?_, ?_, by simp, ?_⟩, Inv.init mo⟩, ?_, below_call (below_call HB2.out HB3.out) hb4⟩
  · show World.frozen? _ ⟨w2.heap.size, j, none⟩ = false
    rw [World.frozen?_of_block (w := w3) (hb4.block w2.heap.size hsz)]
    exact HFr.out j
  · have := hb4.size
    show w2.heap.size < _
    omega
  · constructor <;> simp only [ne_eq] <;> omega
  · rintro k (rfl | rfl | rfl | rfl | rfl | rfl) <;> (try simp only) <;> omega
end Go.Proofs.Ytlelglfdamakaaa
