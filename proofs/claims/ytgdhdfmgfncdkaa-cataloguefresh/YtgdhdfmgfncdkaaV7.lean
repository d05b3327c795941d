import Derived.Test.YtgdhdfmgfncdkaaV6
namespace Go.Proofs.Ytgdhdfmgfncdkaa
open Go.RowKit H
set_option linter.unusedVariables false

/-- What the table holds at rest. -/
def pairs (X : List Tk) (l : Fo) : List (Cp × Int) := l.map (fun x => ((tk X x.1).1, x.1))
theorem pairs_len (X : List Tk) (l : Fo) : (pairs X l).length = l.length := by simp [pairs]
theorem mem_pairs {X : List Tk} {l : Fo} {c : Cp} {v : Int} : (c, v) ∈ pairs X l ↔ v ∈ nums l ∧ (tk X v).1 = c := by
  unfold pairs nums
  simp only [List.mem_map, Prod.mk.injEq]
  constructor
  · rintro ⟨x, hx, h1, h2⟩; subst h2; exact ⟨⟨x, hx, rfl⟩, h1⟩
  · rintro ⟨⟨x, hx, h1⟩, h2⟩; subst h1; exact ⟨x, hx, h2, rfl⟩
theorem keys_iff {X : List Tk} {l : Fo} {c : Cp} : c ∈ (pairs X l).map Prod.fst ↔ hasC X l c = true := by
  rw [hasC_iff, List.mem_map]
  constructor
  · rintro ⟨⟨a, v⟩, h, rfl⟩; exact ⟨v, (mem_pairs.1 h).1, (mem_pairs.1 h).2⟩
  · rintro ⟨n, hn, h⟩; exact ⟨(c, n), mem_pairs.2 ⟨hn, h⟩, rfl⟩
theorem pairs_ext {X Y : List Tk} {l : Fo} (h : ∀ a ∈ nums l, tk Y a = tk X a) : pairs Y l = pairs X l := by
  unfold pairs
  refine List.map_congr_left (fun x hx => ?_)
  rw [h x.1 (mem_nums.2 ⟨x.2, hx⟩)]
/-- A catalogue. -/
structure Cat (w : World) (A : Ad) (kn mo : Nat) (X : List Tk) (l : Fo) : Prop where
  cm : Cm w A kn mo (pairs X l) X l
  inv : Inv mo X l
theorem Cat.but {S : Nat → Prop} {w w' : World} {A : Ad} {kn mo : Nat} {X : List Tk} {l : Fo} (h : Cat w A kn mo X l) (hb : But S w w') (hS : ∀ k, A.All k → ¬ S k) : Cat w' A kn mo X l := ⟨h.cm.but hb hS, h.inv⟩
theorem Cat.later {w w' : World} {A : Ad} {kn mo : Nat} {X : List Tk} {l : Fo} (h : Cat w A kn mo X l) (hb : Below w.heap.size w w') : Cat w' A kn mo X l := ⟨h.cm.later hb, h.inv⟩
theorem Cat.lt {w : World} {A : Ad} {kn mo : Nat} {X : List Tk} {l : Fo} (h : Cat w A kn mo X l) : ∀ k, A.All k → k < w.heap.size := h.cm.lt
theorem Cat.lt' {w : World} {A : Ad} {kn mo : Nat} {X : List Tk} {l : Fo} (h : Cat w A kn mo X l) : ∀ k, A.Wr k → k < w.heap.size := fun k hk => h.cm.lt k (.inr (.inr hk))

/-- Which number a capability has. -/
def findN (X : List Tk) (l : Fo) (c : Cp) : Int := ((nums l).find? (fun n => decide ((tk X n).1 = c))).getD 0
theorem findN_in {m : Nat} {X : List Tk} {l : Fo} (h : Inv m X l) {n : Int} (hn : n ∈ nums l) : findN X l (tk X n).1 = n := by
  unfold findN
  cases hf : (nums l).find? (fun k => decide ((tk X k).1 = (tk X n).1)) with
  | none => have := List.find?_eq_none.1 hf n hn; simp at this
  | some k =>
    have h1 := List.find?_some hf
    have h2 := List.mem_of_find?_eq_some hf
    simp only [decide_eq_true_eq] at h1
    exact h.one k h2 n hn h1
theorem findN_out {X : List Tk} {l : Fo} {c : Cp} (h : hasC X l c = false) : findN X l c = 0 := by
  unfold findN
  rw [List.find?_eq_none.2 (fun n hn hd => ?_)]
  · rfl
  · have := hasC_iff.2 ⟨n, hn, of_decide_eq_true hd⟩
    rw [h] at this; cases this
theorem cfind_any {w : World} {A : Ad} {kn mo : Nat} {X : List Tk} {l : Fo} (h : Cat w A kn mo X l) (c : Cp) (hw : c.2.1 < B64 ∧ c.2.2 < B64) :
    Calls Try.prog 11 #[.pointer (some ⟨A.g, 0, none⟩), cpV c] w fun e w' => e = .returned (.tuple #[.int .i64 (findN X l c), .bool (hasC X l c)]) ∧ Below w.heap.size w w' := by
  by_cases hc : hasC X l c = true
  · obtain ⟨n, hn, rfl⟩ := hasC_iff.1 hc
    rw [hc, findN_in h.inv hn]
    exact find_of h.cm _ _ _ n true (fun W hW => I.get_ok (h.cm.tab.later hW) _ _ _ hw.1 hw.2 n (mem_pairs.2 ⟨hn, rfl⟩))
  · have hc' : hasC X l c = false := by simpa using hc
    rw [hc', findN_out hc']
    exact find_of h.cm _ _ _ 0 false (fun W hW => I.get_none (h.cm.tab.later hW) _ _ _ hw.1 hw.2 (fun hk => hc (keys_iff.1 hk)))
theorem ccount_any {w : World} {A : Ad} {kn mo : Nat} {X : List Tk} {l : Fo} (h : Cat w A kn mo X l) :
    Calls Try.prog 13 #[.pointer (some ⟨A.g, 0, none⟩)] w fun e w' => e = .returned (.int .i64 (l.length : Int)) ∧ w' = w := by
  have := count_any h.cm
  rwa [pairs_len] at this

/-! ### In -/
/-- How many tokens an object has. -/
def inN (X : List Tk) (l : Fo) (o : Int) : Nat := ((nums l).filter (fun n => decide (ob X n = o))).length
theorem firsts_succ (k : Nat) : firsts (k + 1) = firsts k ++ [(k : Int)] := by unfold firsts; rw [List.range_succ, List.map_append]; rfl
def inF (X : List Tk) (l : Fo) (o : Int) (k : Nat) : Nat := ((firsts k).filter (fun n => decide (n ∈ nums l ∧ ob X n = o))).length
theorem inF_le (X : List Tk) (l : Fo) (o : Int) (k : Nat) : inF X l o k ≤ k := by
  have := List.length_filter_le (fun n => decide (n ∈ nums l ∧ ob X n = o)) (firsts k)
  rw [firsts_len] at this
  exact this
theorem inF_succ (X : List Tk) (l : Fo) (o : Int) (k : Nat) : inF X l o (k + 1) = inF X l o k + (if (k : Int) ∈ nums l ∧ ob X (k : Int) = o then 1 else 0) := by
  unfold inF
  rw [firsts_succ, List.filter_append, List.length_append]
  congr 1
  by_cases h : (k : Int) ∈ nums l ∧ ob X (k : Int) = o
  · rw [if_pos h]; simp [h]
  · rw [if_neg h, List.filter_eq_nil_iff.2 (fun a ha => by rw [List.mem_singleton] at ha; subst ha; simpa using h)]; rfl
theorem same_len {A B : List Int} (hA : A.Nodup) (hB : B.Nodup) (h : ∀ x, x ∈ A ↔ x ∈ B) : A.length = B.length :=
  Nat.le_antisymm (nd_sub hA (fun x hx => (h x).1 hx)) (nd_sub hB (fun x hx => (h x).2 hx))
theorem inF_all {m : Nat} {X : List Tk} {l : Fo} (h : Ok m l) (o : Int) : inF X l o m = inN X l o := by
  refine same_len (List.Nodup.sublist List.filter_sublist (firsts_nodup m)) (List.Nodup.sublist List.filter_sublist h.nodup) (fun x => ?_)
  rw [List.mem_filter, List.mem_filter, mem_firsts, decide_eq_true_eq, decide_eq_true_eq]
  exact ⟨fun hx => hx.2, fun hx => ⟨h.range x hx.1, hx⟩⟩
def InRel (w : World) (X : List Tk) (l : Fo) (o : Int) (mo : Nat) (v t : Value) (w' : World) : Prop :=
  ∃ i : Nat, t = .int .i64 (i : Int) ∧ v = .int .i64 (inF X l o i : Int) ∧ i ≤ mo ∧ Below w.heap.size w w'
set_option maxRecDepth 100000 in
set_option maxHeartbeats 2000000 in
theorem cin_any {w : World} {A : Ad} {kn mo : Nat} {T : List (Cp × Int)} {X : List Tk} {l : Fo} (h : Cm w A kn mo T X l) (o : Int) :
    Calls Try.prog 25 #[.pointer (some ⟨A.g, 0, none⟩), .int .i64 o] w fun e w' => e = .returned (.int .i64 (inN X l o : Int)) ∧ Below w.heap.size w w' := by
  have hmo := h.small
  have x1 := h.c1
  have HH := hid h
  have hok := hid h.kin.ok
  clear h
  go_enter Try.func25, Try.ntmps25
  go_upto_region 3 with fail
  go_loopw [5, 14] (InRel w X l o mo) (fun _ k _ => mo - (intOf k).toNat)
  case atStart => exact ⟨0, rfl, rfl, Nat.zero_le _, Below.refl _ _⟩
  case round =>
    obtain ⟨i, rfl, rfl, hi, hB⟩ := hrel
    by_cases hlt : i < mo
    · have hM := HH.out.later hB
      obtain ⟨e0, e1, e2, e3⟩ := hM.at_ hlt
      have hobx : (tk X (i : Int)).1.1 = ob X (i : Int) := rfl
      rw [hobx] at e0
      obtain ⟨w1, hw1⟩ : ∃ w1, w1 = wr.alloc (Obj.cells #[.int .i64 (ob X (i : Int)), .int .u64 ((tk X (i : Int)).1.2.1 : Int), .int .u64 ((tk X (i : Int)).1.2.2 : Int), .int .i64 (tk X (i : Int)).2] 81) := ⟨_, rfl⟩
      have hB1 : Below wr.heap.size wr w1 := by rw [hw1]; exact below1 _ _
      have HB1 := hid (below_call hB hB1)
      have z0 : w1.cell? ⟨wr.heap.size, 0, none⟩ = some (.int .i64 (ob X (i : Int))) := by rw [hw1]; simp [go_sem]
      have hh := hid (chas_any (hM.later hB1) (i : Int))
      have hsu := inF_succ X l o i
      have hle := inF_le X l o i
      clear hM hB1 hobx hB
      by_cases hq : ob X (i : Int) = o
      · by_cases hin : (i : Int) ∈ nums l
        · rw [decide_eq_true hin] at hh
          rw [if_pos ⟨hin, hq⟩] at hsu
          have HSU := hid hsu
          have hb : (ob X (i : Int) == o) = true := by simp [hq]
          clear hsu hin hq
          generalize ob X (i : Int) = oo at *
          generalize ((tk X (i : Int)).1.2.1 : Int) = u1 at *
          generalize ((tk X (i : Int)).1.2.2 : Int) = u2 at *
          generalize (tk X (i : Int)).2 = u3 at *
          generalize hff : inF X l o i = f at *
          clear hff
          go_upto_region 5 with fail
          rw [← hw1]
          clear hw1 e0 e1 e2 e3
          go_wp2_with (first | (go_at_call 26; refine hh.out.mono ?_; rintro e w9 ⟨rfl, hw9⟩; obtain rfl := hw9.symm; clear hw9))
          refine ⟨⟨i + 1, by go_num, by rw [HSU.out]; go_num, by omega, HB1.out⟩, by simp [intOf]; omega⟩
        · rw [decide_eq_false hin] at hh
          rw [if_neg (fun hc => hin hc.1)] at hsu
          have HSU := hid hsu
          have hb : (ob X (i : Int) == o) = true := by simp [hq]
          clear hsu hin hq
          generalize ob X (i : Int) = oo at *
          generalize ((tk X (i : Int)).1.2.1 : Int) = u1 at *
          generalize ((tk X (i : Int)).1.2.2 : Int) = u2 at *
          generalize (tk X (i : Int)).2 = u3 at *
          generalize hff : inF X l o i = f at *
          clear hff
          go_upto_region 5 with fail
          rw [← hw1]
          clear hw1 e0 e1 e2 e3
          go_wp2_with (first | (go_at_call 26; refine hh.out.mono ?_; rintro e w9 ⟨rfl, hw9⟩; obtain rfl := hw9.symm; clear hw9))
          refine ⟨⟨i + 1, by go_num, by rw [HSU.out]; rfl, by omega, HB1.out⟩, by simp [intOf]; omega⟩
      · rw [if_neg (fun hc => hq hc.2)] at hsu
        have HSU := hid hsu
        have hb : (ob X (i : Int) == o) = false := by simp [hq]
        clear hsu hq hh
        generalize ob X (i : Int) = oo at *
        generalize ((tk X (i : Int)).1.2.1 : Int) = u1 at *
        generalize ((tk X (i : Int)).1.2.2 : Int) = u2 at *
        generalize (tk X (i : Int)).2 = u3 at *
        generalize hff : inF X l o i = f at *
        clear hff
        go_upto_region 5 with fail
        rw [← hw1]
        clear hw1 e0 e1 e2 e3
        go_wp2
        refine ⟨⟨i + 1, by go_num, by rw [HSU.out]; rfl, by omega, HB1.out⟩, by simp [intOf]; omega⟩
    · obtain rfl : i = mo := by omega
      have HB := hid hB
      rw [inF_all hok.out]
      clear hB
      go_wp2
      go_ret
      exact ⟨rfl, HB.out⟩
end Go.Proofs.Ytgdhdfmgfncdkaa
