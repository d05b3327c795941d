import Derived.Test.YtlelglfdamakaaaMS
import Derived.Deep.LoopGhost
namespace Go.Proofs.Ytlelglfdamakaaa
open Go.RowKit Go.Shelf H
set_option linter.unusedVariables false

/-! ### children -/
def lastW (wh : Int → Int) (C : List Int) (j : Nat) : Int := if j = 0 then -1 else wh ((C[j - 1]?).getD 0)
theorem ch_ord {l : Fo} {wh : Int → Int} {ev : Nat} (h : Tim l wh ev) (n : Int) : (ch l n).Pairwise (fun a b => wh a < wh b) := by
  unfold ch
  rw [List.pairwise_map]
  exact h.ord.sublist List.filter_sublist
theorem sort_lt {wh : Int → Int} : ∀ {C : List Int}, C.Pairwise (fun a b => wh a < wh b) → ∀ {i j : Nat} {a b : Int}, i < j → C[i]? = some a → C[j]? = some b → wh a < wh b
  | [], _, i, j, a, b, _, h, _ => by simp at h
  | c :: C, hp, i, j, a, b, hij, hi, hj => by
    rw [List.pairwise_cons] at hp
    cases j with
    | zero => omega
    | succ j =>
      rw [List.getElem?_cons_succ] at hj
      cases i with
      | zero =>
        simp at hi
        subst hi
        exact hp.1 b (List.mem_of_getElem? hj)
      | succ i =>
        rw [List.getElem?_cons_succ] at hi
        exact sort_lt hp.2 (by omega) hi hj
theorem lastW_lt {wh : Int → Int} {C : List Int} (hp : C.Pairwise (fun a b => wh a < wh b)) (h0 : ∀ c ∈ C, 0 ≤ wh c) {i j : Nat} {c : Int} (hc : C[i]? = some c) (hj : j ≤ C.length) : lastW wh C j < wh c ↔ j ≤ i := by
  unfold lastW
  by_cases e : j = 0
  · rw [if_pos e]
    have := h0 c (List.mem_of_getElem? hc)
    exact ⟨fun _ => by omega, fun _ => by omega⟩
  · rw [if_neg e]
    obtain ⟨d, hd⟩ : ∃ d, C[j - 1]? = some d := ⟨_, List.getElem?_eq_getElem (by omega)⟩
    rw [hd]
    simp only [Option.getD_some]
    constructor
    · intro h
      by_cases hji : j ≤ i
      · exact hji
      · exfalso
        by_cases e2 : i = j - 1
        · subst e2
          rw [hd] at hc
          cases hc
          omega
        · have := sort_lt hp (show i < j - 1 by omega) hc hd
          omega
    · intro h
      exact sort_lt hp (by omega) hd hc
/-- What has been found so far. -/
def Best (wh : Int → Int) (C : List Int) (last : Int) (k : Nat) (bst : Int) : Prop :=
  (bst = -1 ∧ ∀ i : Nat, i < k → (i : Int) ∈ C → ¬ last < wh (i : Int)) ∨ (∃ c : Nat, bst = (c : Int) ∧ c < k ∧ (c : Int) ∈ C ∧ last < wh (c : Int) ∧ ∀ i : Nat, i < k → (i : Int) ∈ C → last < wh (i : Int) → wh (c : Int) ≤ wh (i : Int))
theorem Best.skip {wh : Int → Int} {C : List Int} {last : Int} {k : Nat} {bst : Int} (h : Best wh C last k bst) (hk : (k : Int) ∈ C → ¬ last < wh (k : Int)) : Best wh C last (k + 1) bst := by
  rcases h with ⟨h1, h2⟩ | ⟨c, h1, h2, h3, h4, h5⟩
  · exact .inl ⟨h1, fun i hi hc => by
      by_cases e : i = k
      · subst e; exact hk hc
      · exact h2 i (by omega) hc⟩
  · exact .inr ⟨c, h1, by omega, h3, h4, fun i hi hc hl => by
      by_cases e : i = k
      · subst e; exact absurd hl (hk hc)
      · exact h5 i (by omega) hc hl⟩
theorem Best.keep {wh : Int → Int} {C : List Int} {last : Int} {k c : Nat} (h : Best wh C last k (c : Int)) (hk : ¬ wh (k : Int) < wh (c : Int)) : Best wh C last (k + 1) (c : Int) := by
  rcases h with ⟨h1, h2⟩ | ⟨d, h1, h2, h3, h4, h5⟩
  · omega
  · obtain rfl : c = d := by omega
    exact .inr ⟨c, rfl, by omega, h3, h4, fun i hi hc hl => by
      by_cases e : i = k
      · subst e; omega
      · exact h5 i (by omega) hc hl⟩
theorem Best.new {wh : Int → Int} {C : List Int} {last : Int} {k : Nat} {bst : Int} (h : Best wh C last k bst) (hk : (k : Int) ∈ C) (hl : last < wh (k : Int)) (hb : bst = -1 ∨ wh (k : Int) < wh bst) : Best wh C last (k + 1) (k : Int) := by
  refine .inr ⟨k, rfl, by omega, hk, hl, fun i hi hc hl2 => ?_⟩
  by_cases e : i = k
  · subst e; omega
  · rcases h with ⟨h1, h2⟩ | ⟨c, h1, h2, h3, h4, h5⟩
    · exact absurd hl2 (h2 i (by omega) hc)
    · subst h1
      have := h5 i (by omega) hc hl2
      rcases hb with hb | hb
      · omega
      · omega
/-- All looked at, the next child is found. -/
theorem Best.next {wh : Int → Int} {C : List Int} {m j : Nat} {bst : Int} (hp : C.Pairwise (fun a b => wh a < wh b)) (h0 : ∀ c ∈ C, 0 ≤ wh c) (hr : ∀ c ∈ C, 0 ≤ c ∧ c < (m : Int)) (hj : j ≤ C.length) (h : Best wh C (lastW wh C j) m bst) : (j < C.length ∧ C[j]? = some bst) ∨ (j = C.length ∧ bst = -1) := by
  by_cases hlt : j < C.length
  · left
    refine ⟨hlt, ?_⟩
    obtain ⟨d, hd⟩ : ∃ d, C[j]? = some d := ⟨_, List.getElem?_eq_getElem hlt⟩
    have hdm := List.mem_of_getElem? hd
    have hdr := hr d hdm
    have hdl := (lastW_lt hp h0 hd hj).2 (Nat.le_refl _)
    have ed : d = ((d.toNat : Nat) : Int) := by omega
    rcases h with ⟨h1, h2⟩ | ⟨c, h1, h2, h3, h4, h5⟩
    · exact absurd (ed ▸ hdl) (h2 d.toNat (by omega) (ed ▸ hdm))
    · have hle := h5 d.toNat (by omega) (ed ▸ hdm) (ed ▸ hdl)
      rw [← ed] at hle
      obtain ⟨i, hi⟩ := List.getElem?_of_mem h3
      have hji := (lastW_lt hp h0 hi hj).1 h4
      by_cases e : i = j
      · subst e; rw [hi, h1]
      · have := sort_lt hp (show j < i by omega) hd hi
        omega
  · right
    have hje : j = C.length := by omega
    refine ⟨hje, ?_⟩
    rcases h with ⟨h1, _⟩ | ⟨c, h1, h2, h3, h4, h5⟩
    · exact h1
    · obtain ⟨i, hi⟩ := List.getElem?_of_mem h3
      have hji := (lastW_lt hp h0 hi hj).1 h4
      have := (List.getElem?_eq_some_iff.1 hi).1
      omega
def ChRel (w : World) (wh : Int → Int) (C : List Int) (g : Nat) (v t : Value) (w' : World) : Prop :=
  ∃ (j : Nat) (a : Option Addr) (cap : Nat), j + g = C.length ∧ v = .slice a j cap ∧ t = .int .i64 (lastW wh C j) ∧ Own w' w.heap.size 3 a j cap (ints (C.take j)) ∧ Below w.heap.size w w'
def ChIn (wr : World) (wh : Int → Int) (C : List Int) (last : Int) (mo : Nat) (v t : Value) (w' : World) : Prop :=
  ∃ (k : Nat) (bst : Int), k ≤ mo ∧ t = .int .i64 (k : Int) ∧ v = .int .i64 bst ∧ Best wh C last k bst ∧ Below wr.heap.size wr w'
set_option maxRecDepth 100000 in
set_option maxHeartbeats 8000000 in
theorem rch_any {w : World} {r b mo : Nat} {X : List Tk} {l : Fo} {wh : Int → Int} {ev : Nat} (h : Rf w r b mo X l wh ev) (hok : Ok mo l) (ht : Tim l wh ev) (n : Int) :
    Calls Try.prog 83 #[.pointer (some ⟨r, 0, none⟩), .int .i64 n] w fun e w' => ∃ a cap, e = .returned (.slice a (ch l n).length cap) ∧ Own w' w.heap.size 3 a (ch l n).length cap (ints (ch l n)) ∧ Below w.heap.size w w' := by
  have HH := hid h
  have hbig := h.big
  have HP := hid (ch_ord ht n)
  have HR : Hid (∀ c ∈ ch l n, 0 ≤ c ∧ c < (mo : Int)) := fun c hc => hok.range c (ch_mem hc)
  have H0 : Hid (∀ c ∈ ch l n, 0 ≤ wh c) := fun c hc => (ht.rng c (ch_mem hc)).1
  have hCl : (ch l n).length ≤ mo := Nat.le_trans (ch_len l n) hok.len
  have HM : Hid (∀ x ∈ nums l, (x ∈ ch l n ↔ par l x = n)) := fun x hx => by
    obtain ⟨p, hp⟩ := mem_nums.1 hx
    rw [par_eq hok hp, mem_ch]
    exact ⟨fun h => hok.uniq hp h, fun h => h ▸ hp⟩
  have HN : Hid (∀ x ∈ ch l n, x ∈ nums l) := fun x hx => ch_mem hx
  clear h ht
  generalize hC : ch l n = C at *
  clear hC
  go_enter Try.func83, Try.ntmps83
  go_upto_region 3 with fail
  go_loopg [5, 6] C.length (ChRel w wh C)
  case atStart => exact ⟨0, none, 0, by omega, rfl, rfl, Own.nil _ _ _, Below.refl _ _⟩
  case round =>
    obtain ⟨j, a, cap, hjg, rfl, rfl, hO, hB⟩ := hrel
    have HO := hid hO
    have HB := hid hB
    have H1 := hid (HH.out.later hB)
    obtain ⟨last, hlast⟩ : ∃ t, t = lastW wh C j := ⟨_, rfl⟩
    have HLA := hid hlast
    rw [← hlast]
    clear hO hB hlast
    go_upto_region 5 with fail
    go_loopw [7, 8] (ChIn wr wh C last mo) (fun _ t _ => mo - (intOf t).toNat)
    case atStart => exact ⟨0, -1, Nat.zero_le _, rfl, rfl, .inl ⟨rfl, fun i hi => by omega⟩, Below.refl _ _⟩
    case round =>
      obtain ⟨k, bst, hk, rfl, rfl, hbst, hBk⟩ := hrel
      have hR := H1.out.later hBk
      have x0 := hR.c0
      have HBk := hid hBk
      by_cases hkl : k < mo
      · obtain ⟨p0, p1, p2, p3, p4, p5, p6⟩ := hR.at_ k hkl
        by_cases hin : (k : Int) ∈ nums l
        · rw [plc_in hin] at p0 p5 p6
          simp only at p0 p5 p6
          by_cases hpn : par l (k : Int) = n
          · have hkc : (k : Int) ∈ C := (HM.out _ hin).2 hpn
            have hb1 : (par l (k : Int) == n) = true := by simp [hpn]
            generalize par l (k : Int) = pk at *
            by_cases hlk : last < wh (k : Int)
            · have hb2 := hbst
              rcases hb2 with ⟨e1, e2⟩ | ⟨c, e1, e2, e3, e4, e5⟩
              · have HN1 := hid (hbst.new hkc hlk (.inl e1))
                subst e1
                generalize wh (k : Int) = wk at *
                clear hbst e2 hR hBk hin hpn hkc p1 p2 p3 p4
                go_upto_region 7 with fail
                go_quiet (fail)
                go_wp2
                exact ⟨⟨k + 1, _, by omega, by go_num, rfl, HN1.out, below_drewN HBk.out _⟩, by simp [intOf]; omega⟩
              · subst e1
                have hcn := HN.out _ e3
                have hcm : c < mo := by omega
                have q6 := (hR.at_ c hcm).c6
                rw [plc_in hcn] at q6
                simp only at q6
                have hc0 : ¬ ((c : Nat) : Int) < 0 := by omega
                by_cases hlt : wh (k : Int) < wh (c : Int)
                · have HN1 := hid (hbst.new hkc hlk (.inr hlt))
                  clear hbst hR hBk hin hpn hkc p1 p2 p3 p4 e3 e4 e5 hcn
                  generalize wh (k : Int) = wk at *
                  generalize wh (c : Int) = wc at *
                  go_upto_region 7 with fail
                  go_quiet (fail)
                  go_wp2
                  exact ⟨⟨k + 1, _, by omega, by go_num, rfl, HN1.out, below_drewN HBk.out _⟩, by simp [intOf]; omega⟩
                · have HN1 := hid (hbst.keep hlt)
                  clear hbst hR hBk hin hpn hkc p1 p2 p3 p4 e3 e4 e5 hcn
                  generalize wh (k : Int) = wk at *
                  generalize wh (c : Int) = wc at *
                  go_upto_region 7 with fail
                  go_quiet (fail)
                  go_wp2
                  exact ⟨⟨k + 1, _, by omega, by go_num, rfl, HN1.out, below_drewN HBk.out _⟩, by simp [intOf]; omega⟩
            · have HN1 := hid (hbst.skip (fun _ => hlk))
              generalize wh (k : Int) = wk at *
              clear hbst hR hBk hin hpn hkc p1 p2 p3 p4
              go_upto_region 7 with fail
              go_quiet (fail)
              go_wp2
              exact ⟨⟨k + 1, _, by omega, by go_num, rfl, HN1.out, below_drewN HBk.out _⟩, by simp [intOf]; omega⟩
          · have HN1 := hid (hbst.skip (fun hc => absurd ((HM.out _ hin).1 hc) hpn))
            have hb1 : (par l (k : Int) == n) = false := by simp [hpn]
            generalize par l (k : Int) = pk at *
            clear hbst hR hBk hin hpn p1 p2 p3 p4 p6
            go_upto_region 7 with fail
            go_quiet (fail)
            go_wp2
            exact ⟨⟨k + 1, _, by omega, by go_num, rfl, HN1.out, below_drewN HBk.out _⟩, by simp [intOf]; omega⟩
        · rw [plc_out hin] at p0
          simp only [pc0] at p0
          have HN1 := hid (hbst.skip (fun hc => absurd (HN.out _ hc) hin))
          clear hbst hR hBk hin p1 p2 p3 p4 p5 p6
          go_upto_region 7 with fail
          go_quiet (fail)
          go_wp2
          exact ⟨⟨k + 1, _, by omega, by go_num, rfl, HN1.out, below_drewN HBk.out _⟩, by simp [intOf]; omega⟩
      · obtain rfl : k = mo := by omega
        rw [HLA.out] at hbst
        rcases Best.next HP.out H0.out HR.out (by omega) hbst with ⟨hj1, hj2⟩ | ⟨hj1, hj2⟩
        · have hbm := List.mem_of_getElem? hj2
          have hbr := HR.out _ hbm
          have hbn := HN.out _ hbm
          obtain ⟨c, rfl⟩ : ∃ c : Nat, bst = (c : Int) := ⟨bst.toNat, by omega⟩
          have hc0 : ¬ ((c : Nat) : Int) < 0 := by omega
          have hcm : c < k := by omega
          obtain ⟨a', cap', w5, hrun, hO5, hG5⟩ := append_one (c : Int) (.inl (HO.out.later hBk)) (Nat.le_trans HB.out.size hBk.size) (by omega)
          have hB5 : Below w.heap.size w w5 := (below_call HB.out hBk).trans (hG5.below (HO.out.later hBk) (Nat.le_trans HB.out.size hBk.size))
          have hR5 := HH.out.later hB5
          have y0 := hR5.c0
          have y6 := (hR5.at_ c hcm).c6
          rw [plc_in hbn] at y6
          simp only at y6
          have HT1 : Hid (C.take (j + 1) = C.take j ++ [(c : Int)]) := by
            unfold Hid
            rw [take_step C j hj1]
            rw [List.getElem?_eq_getElem hj1] at hj2
            rw [Option.some.inj hj2]
          have HLW : Hid (wh (c : Int) = lastW wh C (j + 1)) := by
            unfold Hid lastW
            rw [if_neg (by omega), Nat.add_sub_cancel, hj2]
            rfl
          have HRUN := hid hrun
          have HO5 := hid hO5
          have HB5 := hid hB5
          generalize wh (c : Int) = wc at *
          clear hR hBk hrun hO5 hG5 hB5 hR5 hbst hbm hbn hbr hj2
          go_wp2_with (first | (at_builtin; refine wpList_append_known rfl _ _ 135 rfl _ _ rfl rfl _ w5 HRUN.out ?_))
          go_roundg (gk - 1)
          case measure => omega
          case rel => exact ⟨j + 1, a', cap', by omega, rfl, by rw [← HLW.out], by rw [HT1.out]; exact HO5.out, HB5.out⟩
        · subst hj2
          have HF : Hid (Own wr w.heap.size 3 a j cap (ints C)) := by
            have := HO.out.later hBk
            rw [hj1, List.take_length] at this
            rw [hj1]
            exact this
          have hBe := hid (below_call HB.out hBk)
          clear hR hBk hbst
          subst hj1
          go_wp2
          go_ret
          exact ⟨a, cap, rfl, HF.out, hBe.out⟩
end Go.Proofs.Ytlelglfdamakaaa
namespace Go.Proofs.Ytlelglfdamakaaa
open Go.RowKit Go.Shelf H
set_option linter.unusedVariables false

/-! ### Down -/
theorem fm_take_le {f : Int → List Int} (C : List Int) (i : Nat) : ((C.take i).flatMap f).length ≤ (C.flatMap f).length := by
  have : C.flatMap f = (C.take i).flatMap f ++ (C.drop i).flatMap f := by rw [← List.flatMap_append, List.take_append_drop]
  rw [this, List.length_append]
  omega
def DnRel (W w1 w2 : World) (n : Int) (C : List Int) (f : Int → List Int) (a2 : Option Addr) (c2 : Nat) (v t : Value) (wr : World) : Prop :=
  ∃ (i m : Nat) (a : Option Addr) (cap : Nat), i ≤ C.length ∧ t = .int .i64 (i : Int) ∧ v = .slice a m cap ∧ m = (n :: (C.take i).flatMap f).length ∧ Own wr W.heap.size 3 a m cap (ints (n :: (C.take i).flatMap f)) ∧ (∀ k, Blk a k → k < w1.heap.size ∨ w2.heap.size ≤ k) ∧ Own wr w1.heap.size 3 a2 C.length c2 (ints C) ∧ Below W.heap.size W wr ∧ w2.heap.size ≤ wr.heap.size
set_option maxRecDepth 100000 in
set_option maxHeartbeats 4000000 in
theorem rdown_any {r b mo : Nat} {X : List Tk} {l : Fo} {wh : Int → Int} {ev : Nat} (hok : Ok mo l) (ht : Tim l wh ev) : ∀ n ∈ nums l, ∀ W : World, Rf W r b mo X l wh ev →
    Calls Try.prog 68 #[.pointer (some ⟨r, 0, none⟩), .int .i64 n] W fun e w' => ∃ a cap, e = .returned (.slice a (G true l n).length cap) ∧ Own w' W.heap.size 3 a (G true l n).length cap (ints (G true l n)) ∧ Below W.heap.size W w' := by
  refine tree_ind hok (P := fun n => ∀ W : World, Rf W r b mo X l wh ev → Calls Try.prog 68 #[.pointer (some ⟨r, 0, none⟩), .int .i64 n] W fun e w' => ∃ a cap, e = .returned (.slice a (G true l n).length cap) ∧ Own w' W.heap.size 3 a (G true l n).length cap (ints (G true l n)) ∧ Below W.heap.size W w') (fun n hn ih W h => ?_)
  have hGe : G true l n = n :: (ch l n).flatMap (G true l) := by rw [G_eq hok hn]; rfl
  have hGl := G_len hok true n
  have hbig := h.big
  have HH := hid h
  obtain ⟨w1, hw1⟩ : ∃ w1, w1 = W.alloc (Obj.cells #[.int .i64 n] 3) := ⟨_, rfl⟩
  have hB1 : Below W.heap.size W w1 := by rw [hw1]; exact below1 _ _
  have hO1 : Own w1 W.heap.size 3 (some ⟨W.heap.size, 0, none⟩) 1 1 (ints [n]) := by rw [hw1]; exact Own.one_new W n
  have hlt1 : W.heap.size < w1.heap.size := by rw [hw1]; simp
  have hch := hid (rch_any (h.later hB1) hok ht n)
  have HIH := hid ih
  obtain ⟨L, hL⟩ : ∃ L, L = G true l n := ⟨_, rfl⟩
  rw [← hL]
  rw [hGe] at hGl
  rw [hGe] at hL
  have HL := hid hL
  have HFL := hid (fun i => fm_take_le (f := G true l) (ch l n) i)
  have hCl : (ch l n).length ≤ 256 := Nat.le_trans (Nat.le_trans (ch_len l n) hok.len) hbig
  rw [List.length_cons] at hGl
  clear h hGe ih hL
  generalize hC : ch l n = C at *
  generalize hf : G true l = f at *
  clear hC hf
  have HO1 := hid hO1
  have HB1 := hid hB1
  clear hO1 hB1
  go_enter Try.func68, Try.ntmps68
  go_upto_region 2 with fail
  rw [← hw1]
  clear hw1
  go_upto_region 4 with (first | (go_at_call 83; refine hch.out.mono ?_; rintro e w2 ⟨a2, c2, rfl, hO2, hB2⟩; have HO2 := hid hO2; have HB2 := hid hB2; clear hO2 hB2))
  go_loopw [5, 7] (DnRel W w1 w2 n C f a2 c2) (fun _ t _ => C.length - (intOf t).toNat)
  case atStart => exact ⟨0, 1, some ⟨W.heap.size, 0, none⟩, 1, Nat.zero_le _, rfl, rfl, rfl, HO1.out.later HB2.out, fun k hk => by obtain ⟨x, hx, rfl⟩ := hk; cases hx; exact .inl hlt1, HO2.out, below_call HB1.out HB2.out, Nat.le_refl _⟩
  case round =>
    obtain ⟨i, m, a, cap, hi, rfl, rfl, hm, hO, hap, hC2, hB, hsz⟩ := hrel
    have hs2 := HB2.out.size
    by_cases hlt : i < C.length
    · obtain ⟨ga, rfl⟩ := hC2.form (by omega)
      obtain ⟨_, e1, hL1⟩ := hC2.lies rfl (ints_get C i hlt)
      cases e1
      have y1 := hL1.1
      have hcm : C[i] ∈ C := List.getElem_mem hlt
      have hdn := HIH.out C[i] hcm wr (HH.out.later hB)
      have hts : C.take (i + 1) = C.take i ++ [C[i]] := take_step C i hlt
      have hll : m + (f C[i]).length = (n :: (C.take (i + 1)).flatMap f).length := by rw [hm, hts, List.flatMap_append]; simp; omega
      have hfl1 := HFL.out (i + 1)
      have hcons : (n :: (C.take (i + 1)).flatMap f) = (n :: (C.take i).flatMap f) ++ f C[i] := by rw [hts, List.flatMap_append]; simp
      have hb1 : (n :: (C.take (i + 1)).flatMap f).length ≤ 256 := by rw [List.length_cons]; omega
      have HAPP : Hid (∀ (w3 : World) (a3 : Option Addr) (c3 : Nat), Own w3 wr.heap.size 3 a3 (f C[i]).length c3 (ints (f C[i])) → Below wr.heap.size wr w3 → ∃ a' cap' w4, (Builtin.append_ #[135, 135] 135 #[.slice a m cap, .slice a3 (f C[i]).length c3]).run Try.prog w3 = .ok (.slice a' (m + (f C[i]).length) cap') w4 ∧ DnRel W w1 w2 n C f (some ⟨ga, 0, none⟩) c2 (.slice a' (m + (f C[i]).length) cap') (.int .i64 ((i + 1 : Nat) : Int)) w4) := by
        intro w3 a3 c3 hO3 hB3
        obtain ⟨a', cap', w4, hrun, hO4, hG4⟩ := append_ints (hO.later hB3) hO3.read (Nat.le_trans hB.size hB3.size) (by rw [hll]; omega)
        rw [← ints_append, ← hcons] at hO4
        refine ⟨a', cap', w4, hrun, i + 1, m + (f C[i]).length, a', cap', by omega, rfl, rfl, hll, hO4, fun k hk => ?_, (hC2.later hB3).but hG4.but (fun k hk hk2 => ?_), (below_call hB hB3).trans (hG4.below (hO.later hB3) (Nat.le_trans hB.size hB3.size)), Nat.le_trans hsz (Nat.le_trans hB3.size hG4.but.size)⟩
        · rcases hG4.on k hk with h1 | h1
          · exact hap k h1
          · exact .inr (Nat.le_trans hsz (Nat.le_trans hB3.size h1))
        · have h1 := hC2.blk k hk
          have h2 := HO2.out.lt k hk
          rcases hap k hk2 with h3 | h3 <;> omega
      generalize hcc : C[i] = cc at *
      have HDN := hid hdn
      clear hO hC2 hL1 hdn hts hcons hll hcc hap hB hm hb1 hfl1
      go_wp2_with (first | (go_at_call 68; refine HDN.out.mono ?_; rintro e w3 ⟨a3, c3, rfl, hO3, hB3⟩; obtain ⟨a', cap', w4, hrun, hfin⟩ := HAPP.out w3 a3 c3 hO3 hB3; have HRUN := hid hrun; have HFIN := hid hfin; clear hO3 hB3 hrun hfin) | (at_builtin; refine wpList_append_known rfl _ _ 135 rfl _ _ rfl rfl _ w4 HRUN.out ?_))
      refine ⟨?_, by simp [intOf]; omega⟩
      have := HFIN.out
      simpa using this
    · obtain rfl : i = C.length := by omega
      rw [List.take_length, ← HL.out] at hO hm
      subst hm
      have HO := hid hO
      have HB := hid hB
      clear hO hB hC2 hap
      go_wp2
      go_ret
      exact ⟨a, cap, rfl, HO.out, HB.out⟩
end Go.Proofs.Ytlelglfdamakaaa
namespace Go.Proofs.Ytlelglfdamakaaa
open Go.RowKit Go.Shelf H
set_option linter.unusedVariables false

/-! ### Drop -/
theorem par_cuts {l : Fo} {A : List Int} {x : Int} (h : x ∉ A) : par (cuts l A) x = par l x := by
  unfold par
  congr 2
  unfold cuts
  induction l with
  | nil => rfl
  | cons y l ih =>
    by_cases e : y.1 = x
    · rw [List.filter_cons_of_pos (by rw [e]; simpa using h), List.find?_cons_of_pos (by simpa using e), List.find?_cons_of_pos (by simpa using e)]
    · rw [List.find?_cons_of_neg (by simpa using e)]
      by_cases hy : y.1 ∈ A
      · rw [List.filter_cons_of_neg (by simpa using hy)]; exact ih
      · rw [List.filter_cons_of_pos (by simpa using hy), List.find?_cons_of_neg (by simpa using e)]; exact ih
theorem plc_zer {X : List Tk} {l : Fo} {wh : Int → Int} {A : List Int} (hA : ∀ a ∈ A, 0 ≤ a) {x : Int} (h0 : 0 ≤ x) (hx : x ∉ A) : plc (zer X A) (cuts l A) wh x = plc X l wh x := by
  by_cases hn : x ∈ nums l
  · rw [plc_in hn, plc_in (nums_cuts.2 ⟨hn, hx⟩), par_cuts hx]
    unfold rg
    rw [zer_tk A X x h0 hA hx]
  · rw [plc_out hn, plc_out (fun h => hn (nums_cuts.1 h).1)]
theorem plc_step {X : List Tk} {l : Fo} {wh : Int → Int} {A : List Int} {k : Nat} (hA : ∀ a ∈ A, 0 ≤ a) : plc (zer X (A ++ [(k : Int)])) (cuts l (A ++ [(k : Int)])) wh (k : Int) = pc0 ∧ ∀ i : Nat, i ≠ k → plc (zer X (A ++ [(k : Int)])) (cuts l (A ++ [(k : Int)])) wh (i : Int) = plc (zer X A) (cuts l A) wh (i : Int) := by
  refine ⟨plc_out (fun h => (nums_cuts.1 h).2 (by simp)), fun i hi => ?_⟩
  have hA2 : ∀ a ∈ A ++ [(k : Int)], 0 ≤ a := fun a ha => by
    rcases List.mem_append.1 ha with h | h
    · exact hA a h
    · rw [List.mem_singleton] at h; omega
  by_cases hm : (i : Int) ∈ A
  · rw [plc_out (fun h => (nums_cuts.1 h).2 (List.mem_append_left _ hm)), plc_out (fun h => (nums_cuts.1 h).2 hm)]
  · have hm2 : (i : Int) ∉ A ++ [(k : Int)] := fun h => by
      rcases List.mem_append.1 h with h | h
      · exact hm h
      · rw [List.mem_singleton] at h; omega
    rw [plc_zer hA2 (by omega) hm2, plc_zer hA (by omega) hm]
theorem op_append_known {P : Program} {w : World} {o : Oper} {a : Act} {K : Act → World → Prop} {Q : Exit → Act → World → Prop} (s x : Operand) (t : TypeId)
    (ho : o.op = .call { callee := .builtin .append, args := #[s, x], argTypes := #[t, t] }) (vs vx : Value) (hs : a.eval s = vs) (hx : a.eval x = vx) (v' : Value) (w' : World)
    (hr : (Builtin.append_ #[t, t] o.type #[vs, vx]).run P w = .ok v' w') (h : K (a.put o.dst v') w') : o.wp P a w K Q := by
  unfold Oper.wp execOp
  simp only [ho, resolve, invoke, builtin, Sem.run_bind, Sem.run_pure, Result.andThen_ok, List.map_toArray, List.map_cons, List.map_nil, hs, hx, hr]
  exact h
def RdRel (w1 : World) (r b mo : Nat) (X : List Tk) (l : Fo) (wh : Int → Int) (ev : Nat) (Gs : List Int) (v t : Value) (wr : World) : Prop :=
  ∃ (i : Nat) (a : Option Addr) (c : Nat), i ≤ Gs.length ∧ t = .int .i64 (i : Int) ∧ v = .slice a i c ∧ Ow wr w1.heap.size 32 3 a i c (caps ((Gs.take i).map (fun k => (tk X k).1))) ∧ Rf wr r b mo (zer X (Gs.take i)) (cuts l (Gs.take i)) wh ev ∧ But (· = b) w1 wr
def RDropped (W : World) (r b mo : Nat) (X : List Tk) (l : Fo) (wh : Int → Int) (ev : Nat) (n : Int) (e : Ending) (w' : World) : Prop :=
  ∃ a c, e = .returned (.tuple #[.slice a (G true l n).length c, .int .i64 (if n ∈ nums l then 0 else 20)]) ∧ Ow w' W.heap.size 32 3 a (G true l n).length c (caps ((G true l n).map (fun k => (tk X k).1))) ∧ Rf w' r b mo (zer X (G true l n)) (cuts l (G true l n)) wh ev ∧ But (· = b) W w'
set_option maxRecDepth 100000 in
set_option maxHeartbeats 8000000 in
theorem rdrop_any {W : World} {r b mo : Nat} {X : List Tk} {l : Fo} {wh : Int → Int} {ev : Nat} (h : Rf W r b mo X l wh ev) (hok : Ok mo l) (ht : Tim l wh ev) (n : Int) :
    Calls Try.prog 43 #[.pointer (some ⟨r, 0, none⟩), .int .i64 n] W (RDropped W r b mo X l wh ev n) := by
  have his := hid (ris_any h hok.range n)
  have HH := hid h
  have hbig := h.big
  by_cases hn : n ∈ nums l
  · have hdn := hid (rdown_any hok ht n hn W h)
    have hGl := G_len hok true n
    have HGn : Hid (∀ x ∈ G true l n, x ∈ nums l ∧ 0 ≤ x ∧ x < (mo : Int)) := fun x hx => by
      have h1 := G_nums hok hx
      have := hok.range x h1
      exact ⟨h1, this.1, this.2⟩
    have HND := hid (G_nodup hok true n)
    have hltb := h.ltb
    have hne := h.ne
    have hmx : Try.prog.follows .mixedOrders = true := by kernel_rfl
    unfold RDropped
    rw [if_pos hn]
    rw [decide_eq_true hn] at his
    clear h ht
    generalize hGs : G true l n = Gs at *
    clear hGs
    go_enter Try.func43, Try.ntmps43
    go_upto_region 6 with (first | (go_at_call 68; refine hdn.out.mono ?_; rintro e w1 ⟨a1, c1, rfl, hO1, hB1⟩; have HO1 := hid hO1; have HB1 := hid hB1; clear hO1 hB1) | (go_at_call 67; refine his.out.mono ?_; rintro e w9 ⟨rfl, hw9⟩; obtain rfl := hw9.symm; clear hw9))
    have hs1 := HB1.out.size
    go_loopw [7, 8] (RdRel w1 r b mo X l wh ev Gs) (fun _ t _ => Gs.length - (intOf t).toNat)
    case atStart => exact ⟨0, none, 0, Nat.zero_le _, rfl, rfl, Ow.nil _ _ _ _, by rw [List.take_zero, cuts_nil]; exact HH.out.later HB1.out, But.refl _ _⟩
    case round =>
      obtain ⟨i, a, c, hi, rfl, rfl, hO, hR, hBw⟩ := hrel
      by_cases hlt : i < Gs.length
      · have hOg := HO1.out.but hBw (fun k hk e => by have := HO1.out.blk k hk; omega)
        obtain ⟨ga, rfl⟩ := hOg.form (by omega)
        obtain ⟨_, e1, hL1⟩ := hOg.lies rfl (ints_get Gs i hlt)
        cases e1
        obtain ⟨x, hx⟩ : ∃ x, x = Gs[i] := ⟨_, rfl⟩
        have hxm : x ∈ Gs := by rw [hx]; exact List.getElem_mem hlt
        obtain ⟨hxl, hx0, hxm2⟩ := HGn.out x hxm
        obtain ⟨k, rfl⟩ : ∃ k : Nat, x = (k : Int) := ⟨x.toNat, by omega⟩
        have hkm : k < mo := by omega
        have hts : Gs.take (i + 1) = Gs.take i ++ [(k : Int)] := by rw [take_step Gs i hlt, ← hx]
        have hnt : (k : Int) ∉ Gs.take i := fun hm => by
          obtain ⟨j, hj⟩ := List.getElem?_of_mem hm
          have hjl : j < i := by have := (List.getElem?_eq_some_iff.1 hj).1; rw [List.length_take] at this; omega
          rw [List.getElem?_take_of_lt hjl] at hj
          have hgi : Gs[i]? = some (k : Int) := by rw [List.getElem?_eq_getElem hlt, ← hx]
          have := nd_idx HND.out hj hgi
          omega
        have hA : ∀ a ∈ Gs.take i, 0 ≤ a := fun a ha => (HGn.out a (List.mem_of_mem_take ha)).2.1
        obtain ⟨q1, q2⟩ := plc_step (X := X) (l := l) (wh := wh) (k := k) hA
        rw [← hts] at q1 q2
        have hP := hR.at_ k hkm
        have hin' : (k : Int) ∈ nums (cuts l (Gs.take i)) := nums_cuts.2 ⟨hxl, hnt⟩
        rw [plc_in hin'] at hP
        have htk : tk (zer X (Gs.take i)) (k : Int) = tk X (k : Int) := zer_tk _ X _ (by omega) hA hnt
        rw [htk] at hP
        have y1 := hL1.1
        rw [← hx] at y1
        have x0 := hR.c0
        obtain ⟨p0, p1, p2, p3, p4, p5, p6⟩ := hP
        simp only at p0 p1 p2 p3 p4 p5 p6
        obtain ⟨⟨ot, ht_, lt_⟩, r0, hxx⟩ : ∃ c r, tk X (k : Int) = (c, r) := ⟨_, _, rfl⟩
        have hcs : caps ((Gs.take (i + 1)).map (fun k => (tk X k).1)) = caps ((Gs.take i).map (fun k => (tk X k).1)) ++ encC (ot, ht_, lt_) := by rw [hts, List.map_append, ← caps_snoc]; simp [hxx]
        rw [hxx] at p1 p2 p3
        simp only at p1 p2 p3
        have hcr := Cr.lit wr.drew 32 (encC (ot, ht_, lt_)) (encC_one _)
        obtain ⟨a', c', w5, hrun, hO5, hG5⟩ := append_k 46 32 _ 3 24 Try.underlying46 info32 rfl (by omega) (by omega) (hO.later (below_call (Below.refl _ _).drew (below1 wr.drew (Obj.cells (encC (ot, ht_, lt_)).toArray 32)))) hcr (by have := hBw.size; simp; omega) (by omega)
        have hG5' := hG5.pre (below_call (Below.refl _ _).drew (below1 wr.drew (Obj.cells (encC (ot, ht_, lt_)).toArray 32)))
        have hbn : ∀ j, Blk a j → w1.heap.size ≤ j := fun j hj => (hO.blk j hj).1
        have hR5 := hR.but hG5'.but (fun hb => by have := hbn _ hb; have := HB1.out.size; have := hR.ltr; have := HH.out.ltr; omega) (fun hb => by have := hbn _ hb; omega)
        have hOg5 := hOg.but hG5'.but (fun j hj hb => by have := hbn _ hb; have := HO1.out.lt j hj; omega)
        have HFI1 : Hid (Ow w5 w1.heap.size 32 3 a' (i + 1) c' (caps ((Gs.take (i + 1)).map (fun k => (tk X k).1))) ∧ Rf w5 r b mo (zer X (Gs.take i)) (cuts l (Gs.take i)) wh ev ∧ Own w5 W.heap.size 3 (some ⟨ga, 0, none⟩) Gs.length c1 (ints Gs) ∧ But (· = b) w1 w5) := by
          refine ⟨by rw [hcs]; exact hO5, hR5, hOg5, hBw.comp hG5'.but (fun j hj => .inr (hbn j hj))⟩
        have HRUN := hid hrun
        have HQ1 := hid q1
        have HQ2 := hid q2
        have hgi : Gs[i]? = some (k : Int) := by rw [List.getElem?_eq_getElem hlt, ← hx]
        have HGI := hid hgi
        clear hO hR hBw hOg hL1 hrun hO5 hG5 hG5' hR5 hOg5 q1 q2 hcs hcr hxx htk hts hnt hA hin' hxl hxm hgi hx hbn p0 p4 p5 p6
        go_upto_region 8 with fail
        go_cut [7] from 22 to 35 (fun s W5 => ∃ (a' : Option Addr) (c' : Nat), s = .slice a' (i + 1) c' ∧ (Ow W5 w1.heap.size 32 3 a' (i + 1) c' (caps ((Gs.take (i + 1)).map (fun k => (tk X k).1))) ∧ Rf W5 r b mo (zer X (Gs.take i)) (cuts l (Gs.take i)) wh ev ∧ Own W5 W.heap.size 3 (some ⟨ga, 0, none⟩) Gs.length c1 (ints Gs) ∧ But (· = b) w1 W5))
        case first =>
          refine wp_region_any hmx ?_
          change wpAny _ _ _ _ _ _ _ (World.drew _)
          refine wpAny_take (i := 0) (v := ?_) rfl (by kernel_rfl) (by kernel_rfl) (by kernel_rfl) (fun _ _ _ h => h) (Or.inl ⟨by rfl, ?_⟩) ?_
          rotate_left
          · (intro w_; go_simp; try with_reducible rfl)
          simp only [List.getElem_toArray, List.getElem_cons_zero, Act.put, List.setIfInBounds_toArray, List.set_cons_zero, List.set_cons_succ]
          refine wpAny_take (i := 1) (v := ?_) rfl (by kernel_rfl) (by kernel_rfl) (by kernel_rfl) (fun _ _ _ h => h) (Or.inl ⟨by rfl, ?_⟩) ?_
          rotate_left
          · (intro w_; go_simp; try with_reducible rfl)
          simp only [List.getElem_toArray, List.getElem_cons_succ, List.getElem_cons_zero, Act.put, List.setIfInBounds_toArray, List.set_cons_zero, List.set_cons_succ]
          refine wpAny_take (i := 5) (v := ?_) rfl (by kernel_rfl) (by kernel_rfl) (by kernel_rfl) (fun _ _ _ h => h) (Or.inl ⟨by rfl, ?_⟩) ?_
          rotate_left
          · (intro w_; go_simp; try with_reducible rfl)
          simp only [List.getElem_toArray, List.getElem_cons_succ, List.getElem_cons_zero, Act.put, List.setIfInBounds_toArray, List.set_cons_zero, List.set_cons_succ]
          refine wpAny_take (i := 6) (v := ?_) rfl (by kernel_rfl) (by kernel_rfl) (by kernel_rfl) (fun _ _ _ h => h) (Or.inl ⟨by rfl, ?_⟩) ?_
          rotate_left
          · (intro w_; go_simp; try with_reducible rfl)
          simp only [List.getElem_toArray, List.getElem_cons_succ, List.getElem_cons_zero, Act.put, List.setIfInBounds_toArray, List.set_cons_zero, List.set_cons_succ]
          refine wpAny_take (i := 2) (v := ?_) rfl (by kernel_rfl) (by kernel_rfl) (by kernel_rfl) (fun _ _ _ h => h) (Or.inl ⟨by rfl, ?_⟩) ?_
          rotate_left
          · (intro w_; go_simp; try with_reducible rfl)
          simp only [List.getElem_toArray, List.getElem_cons_succ, List.getElem_cons_zero, Act.put, List.setIfInBounds_toArray, List.set_cons_zero, List.set_cons_succ]
          refine wpAny_take (i := 3) (v := ?_) rfl (by kernel_rfl) (by kernel_rfl) (by kernel_rfl) (fun _ _ _ h => h) (Or.inl ⟨by rfl, ?_⟩) ?_
          rotate_left
          · (intro w_; go_simp; try with_reducible rfl)
          simp only [List.getElem_toArray, List.getElem_cons_succ, List.getElem_cons_zero, Act.put, List.setIfInBounds_toArray, List.set_cons_zero, List.set_cons_succ]
          refine wpAny_take (i := 7) (v := ?_) rfl (by kernel_rfl) (by kernel_rfl) (by kernel_rfl) (fun _ _ _ h => h) (Or.inl ⟨by rfl, ?_⟩) ?_
          rotate_left
          · (intro w_; go_simp; try with_reducible rfl)
          simp only [List.getElem_toArray, List.getElem_cons_succ, List.getElem_cons_zero, Act.put, List.setIfInBounds_toArray, List.set_cons_zero, List.set_cons_succ]
          refine wpAny_ready (rs := [4, 8]) (by kernel_rfl) (by simp) ?_
          refine AllReady.cons rfl (fun K hK => ?_) (AllReady.cons rfl (fun K hK => ?_) AllReady.nil)
          · go_simp
            refine hK _ _ ?_
            clear hK K
            refine wpAny_ready (rs := [8]) (by kernel_rfl) (by simp) ?_
            refine AllReady.cons rfl (fun K hK => ?_) AllReady.nil
            go_simp
            refine hK _ _ ?_
            clear hK K
            refine wpAny_ready (rs := [9]) (by kernel_rfl) (by simp) ?_
            refine AllReady.cons rfl (fun K hK => ?_) AllReady.nil
            go_simp
            refine hK _ _ ?_
            clear hK K
            refine wpAny_ready (rs := [10]) (by kernel_rfl) (by simp) ?_
            refine AllReady.cons rfl (fun K hK => ?_) AllReady.nil
            go_simp
            refine hK _ _ ?_
            clear hK K
            refine wpAny_ready (rs := [11]) (by kernel_rfl) (by simp) ?_
            refine AllReady.cons rfl (fun K hK => ?_) AllReady.nil
            go_simp
            refine hK _ _ ?_
            clear hK K
            refine wpAny_ready (rs := [12]) (by kernel_rfl) (by simp) ?_
            refine AllReady.cons rfl (fun K hK => ?_) AllReady.nil
            go_simp
            refine hK _ _ ?_
            clear hK K
            refine wpAny_ready (rs := [13]) (by kernel_rfl) (by simp) ?_
            refine AllReady.cons rfl (fun K hK => ?_) AllReady.nil
            rw [if_pos (by kernel_rfl)]
            refine op_append_known _ _ 46 rfl _ _ rfl rfl _ w5 HRUN.out ?_
            refine hK _ _ ?_
            clear hK K
            simp only [Act.put, List.setIfInBounds_toArray]
            refine wpAny_ready (rs := [14]) (by kernel_rfl) (by simp) ?_
            refine AllReady.cons rfl (fun K hK => ?_) AllReady.nil
            go_simp
            refine hK _ _ ?_
            clear hK K
            refine wpAny_done (by kernel_rfl) ?_ _
            go_wp2
            go_meet
            exact ⟨_, _, rfl, HFI1.out⟩
          · go_simp
            refine hK _ _ ?_
            clear hK K
            refine wpAny_ready (rs := [4]) (by kernel_rfl) (by simp) ?_
            refine AllReady.cons rfl (fun K hK => ?_) AllReady.nil
            go_simp
            refine hK _ _ ?_
            clear hK K
            refine wpAny_ready (rs := [9]) (by kernel_rfl) (by simp) ?_
            refine AllReady.cons rfl (fun K hK => ?_) AllReady.nil
            go_simp
            refine hK _ _ ?_
            clear hK K
            refine wpAny_ready (rs := [10]) (by kernel_rfl) (by simp) ?_
            refine AllReady.cons rfl (fun K hK => ?_) AllReady.nil
            go_simp
            refine hK _ _ ?_
            clear hK K
            refine wpAny_ready (rs := [11]) (by kernel_rfl) (by simp) ?_
            refine AllReady.cons rfl (fun K hK => ?_) AllReady.nil
            go_simp
            refine hK _ _ ?_
            clear hK K
            refine wpAny_ready (rs := [12]) (by kernel_rfl) (by simp) ?_
            refine AllReady.cons rfl (fun K hK => ?_) AllReady.nil
            go_simp
            refine hK _ _ ?_
            clear hK K
            refine wpAny_ready (rs := [13]) (by kernel_rfl) (by simp) ?_
            refine AllReady.cons rfl (fun K hK => ?_) AllReady.nil
            rw [if_pos (by kernel_rfl)]
            refine op_append_known _ _ 46 rfl _ _ rfl rfl _ w5 HRUN.out ?_
            refine hK _ _ ?_
            clear hK K
            simp only [Act.put, List.setIfInBounds_toArray]
            refine wpAny_ready (rs := [14]) (by kernel_rfl) (by simp) ?_
            refine AllReady.cons rfl (fun K hK => ?_) AllReady.nil
            go_simp
            refine hK _ _ ?_
            clear hK K
            refine wpAny_done (by kernel_rfl) ?_ _
            go_wp2
            go_meet
            exact ⟨_, _, rfl, HFI1.out⟩
        case rest =>
          obtain ⟨a7, c7, rfl, hO7, hR7, hOg7, hB7⟩ := hcut
          obtain ⟨_, e7, hL7⟩ := hOg7.lies rfl (j := i) (u := .int .i64 (k : Int)) (by rw [ints, List.getElem?_map, HGI.out]; rfl)
          cases e7
          have y7 := hL7.1
          have x7 := hR7.c0
          obtain ⟨s0, s1, s2, s3, s4, s5, s6⟩ := hR7.at_ k hkm
          have hfr := hR7.fr
          have hset := (hR7.set hkm HQ1.out (fun j _ hj => HQ2.out j hj))
          have hbs : But (· = b) wc (set7 wc b (k * 7) pc0) := set7_but (S := (· = b)) (But.refl _ _) rfl _ _
          have hfin : ∀ Wz : World, Wz = (set7 wc b (k * 7) pc0).drew → Ow Wz w1.heap.size 32 3 a7 (i + 1) c7 (caps ((Gs.take (i + 1)).map (fun k => (tk X k).1))) ∧ Rf Wz r b mo (zer X (Gs.take (i + 1))) (cuts l (Gs.take (i + 1))) wh ev ∧ But (· = b) w1 Wz := by
            rintro Wz rfl
            exact ⟨(hO7.but hbs (fun j hj e => by have := (hO7.blk j hj).1; omega)).later (Below.refl _ _).drew, hset.later (Below.refl _ _).drew, (hB7.trans hbs).call (Below.refl _ _).drew⟩
          have HF := hid hfin
          have hbk : ¬ (b = ga) := fun e => by have := hOg7.blk ga ⟨_, rfl, rfl⟩; omega
          clear hset hbs hfin hO7 hOg7 hR7 hB7 hL7
          go_upto_region 9 with fail
          go_region
          go_wp2
          obtain ⟨f1, f2, f3⟩ := HF.out _ rfl
          exact ⟨⟨i + 1, a7, c7, by omega, by go_num, rfl, f1, f2, f3⟩, by simp [intOf]; omega⟩
      · obtain rfl : i = Gs.length := by omega
        rw [List.take_length] at hO hR
        have HO := hid hO
        have HR := hid hR
        have HBe : Hid (But (· = b) W wr) := (But.of HB1.out).trans hBw
        clear hO hR hBw
        go_wp2
        exact bodyPost_ret (v := .tuple #[.slice a Gs.length c, .int .i64 0]) (by simp [results, Try.results43, go_sem]) rfl ⟨a, c, rfl, HO.out.mono (by omega), HR.out, HBe.out⟩
  · unfold RDropped
    rw [if_neg hn, G_out hn]
    rw [decide_eq_false hn] at his
    have HF : Hid (Rf W r b mo (zer X []) (cuts l []) wh ev) := by unfold Hid; rw [cuts_nil]; exact HH.out
    clear h ht
    go_enter Try.func43, Try.ntmps43
    go_wp2_with (first | (go_at_call 67; refine his.out.mono ?_; rintro e w9 ⟨rfl, hw9⟩; obtain rfl := hw9.symm; clear hw9))
    exact bodyPost_ret (v := .tuple #[.slice none 0 0, .int .i64 20]) (by simp [results, Try.results43, go_sem]) rfl ⟨none, 0, rfl, Ow.nil _ _ _ _, HF.out, But.refl _ _⟩
end Go.Proofs.Ytlelglfdamakaaa
