import Derived.Test.YtlelglfdamakaaaRC
namespace Go.Proofs.Ytlelglfdamakaaa
open Go.RowKit Go.Shelf H
set_option linter.unusedVariables false

/-! ### put -/
/-- The times of putting in rise along the forest. -/
structure Tim (l : Fo) (wh : Int → Int) (ev : Nat) : Prop where
  ord : l.Pairwise (fun a b => wh a.1 < wh b.1)
  rng : ∀ x ∈ nums l, 0 ≤ wh x ∧ wh x < (ev : Int)
theorem Tim.add {l : Fo} {wh : Int → Int} {ev : Nat} (h : Tim l wh ev) {n p : Int} (hn : n ∉ nums l) : Tim (l ++ [(n, p)]) (fun x => if x = n then (ev : Int) else wh x) (ev + 1) := by
  have hne : ∀ x ∈ nums l, x ≠ n := fun x hx e => hn (e ▸ hx)
  refine ⟨?_, fun x hx => ?_⟩
  · rw [List.pairwise_append]
    refine ⟨h.ord.imp_of_mem (fun {a b} ha hb hab => ?_), by simp, fun a ha b hb => ?_⟩
    · rw [if_neg (hne _ (mem_nums.2 ⟨a.2, ha⟩)), if_neg (hne _ (mem_nums.2 ⟨b.2, hb⟩))]
      exact hab
    · rw [List.mem_singleton] at hb
      subst hb
      have ha' := mem_nums.2 ⟨a.2, ha⟩
      rw [if_neg (hne _ ha'), if_pos rfl]
      exact (h.rng _ ha').2
  · rw [nums_app, List.mem_append, List.mem_singleton] at hx
    rcases hx with hx | rfl
    · rw [if_neg (hne x hx)]
      have := h.rng x hx
      omega
    · rw [if_pos rfl]; omega
theorem Tim.cuts {l : Fo} {wh : Int → Int} {ev : Nat} (h : Tim l wh ev) (A : List Int) : Tim (cuts l A) wh ev := ⟨h.ord.sublist List.filter_sublist, fun x hx => h.rng x (nums_cuts.1 hx).1⟩
theorem plc_add {m : Nat} {X : List Tk} {l : Fo} {wh : Int → Int} {ev : Int} (h : Inv m X l) {k : Nat} {p : Int} {c : Cp} {r : Int} (hk : k < m) (hn : (k : Int) ∉ nums l) (hok : Ok m (l ++ [((k : Int), p)])) :
    plc (X.set k (c, r)) (l ++ [((k : Int), p)]) (fun x => if x = (k : Int) then ev else wh x) (k : Int) = ⟨true, c, r, p, ev⟩ ∧ ∀ i : Nat, i < m → i ≠ k → plc (X.set k (c, r)) (l ++ [((k : Int), p)]) (fun x => if x = (k : Int) then ev else wh x) (i : Int) = plc X l wh (i : Int) := by
  have hlen : k < X.length := by rw [h.len]; exact hk
  constructor
  · rw [plc_in (by rw [nums_app]; simp)]
    unfold rg
    rw [tk_set_same _ hlen, par_eq hok (p := p) (List.mem_append_right _ (List.mem_singleton.2 rfl)), if_pos rfl]
  · intro i hi hne
    have hne' : (i : Int) ≠ (k : Int) := by omega
    by_cases hin : (i : Int) ∈ nums l
    · rw [plc_in hin, plc_in (by rw [nums_app]; exact List.mem_append_left _ hin)]
      unfold rg
      obtain ⟨q, hq⟩ := mem_nums.1 hin
      rw [tk_set_other _ (by omega) hne', par_eq h.ok hq, par_eq hok (List.mem_append_left _ hq), if_neg hne']
    · rw [plc_out hin, plc_out (fun hm => by
        rw [nums_app, List.mem_append, List.mem_singleton] at hm
        rcases hm with hm | hm
        · exact hin hm
        · exact hne' hm)]
def RPutRel (w1 : World) (l : Fo) (mo : Nat) (t : Value) (w' : World) : Prop :=
  ∃ i : Nat, i ≤ mo ∧ t = .int .i64 (i : Int) ∧ Hid (∀ j : Nat, j < i → (j : Int) ∈ nums l) ∧ w1 = w'
/-- Behind the document's putting in. -/
def RDone (w : World) (r b mo : Nat) (R : Res) (wh : Int → Int) (ev : Nat) (e : Ending) (w' : World) : Prop :=
  e = .returned (.tuple #[.int .i64 R.num, .int .i64 R.code]) ∧ (∃ wh' ev', Rf w' r b mo R.X R.l wh' ev' ∧ Tim R.l wh' ev' ∧ ev' ≤ ev + 1) ∧ But (fun k => k = r ∨ k = b) w w'
set_option maxRecDepth 100000 in
set_option maxHeartbeats 4000000 in
theorem rput_any {w : World} {r b mo : Nat} {X : List Tk} {l : Fo} {wh : Int → Int} {ev : Nat} (h : Rf w r b mo X l wh ev) (hv : Inv mo X l) (ht : Tim l wh ev) (he : ev < 9223372036854775807) (o : Int) (hi lo : Nat) (rt p : Int) (hc : hasC X l (o, hi, lo) = false) (hw : hi < B64 ∧ lo < B64) (hp : p = -1 ∨ p ∈ nums l) :
    Calls Try.prog 66 #[.pointer (some ⟨r, 0, none⟩), .agg #[.int .i64 o, .int .u64 (hi : Int), .int .u64 (lo : Int)], .int .i64 rt, .int .i64 p] w (RDone w r b mo (addR mo X l p (o, hi, lo) rt) wh ev) := by
  obtain ⟨w1, hw1⟩ : ∃ w1, w1 = w.alloc (Obj.cells #[.int .i64 o, .int .u64 (hi : Int), .int .u64 (lo : Int)] 32) := ⟨_, rfl⟩
  have hB1 : Below w.heap.size w w1 := by rw [hw1]; exact below1 _ _
  have z0 : w1.cell? ⟨w.heap.size, 0, none⟩ = some (.int .i64 o) := by rw [hw1]; simp [go_sem]
  have z1 : w1.cell? ⟨w.heap.size, 1, none⟩ = some (.int .u64 (hi : Int)) := by rw [hw1]; simp [go_sem]
  have z2 : w1.cell? ⟨w.heap.size, 2, none⟩ = some (.int .u64 (lo : Int)) := by rw [hw1]; simp [go_sem]
  have h1 := h.later hB1
  have x0 := h1.c0
  have x1 := h1.c1.1
  have x1' := h1.c1.2
  have hbig := h.big
  have hne := h.ne
  have hsb : ¬ w.heap.size = b := by have := h.ltb; omega
  have H1 := hid h1
  have HV := hid hv
  have HT := hid ht
  have HB1 := hid hB1
  have hfr := h1.fr
  obtain ⟨R, hR⟩ : ∃ R, R = addR mo X l p (o, hi, lo) rt := ⟨_, rfl⟩
  rw [← hR]
  unfold addR at hR
  rw [if_neg (by rw [hc]; decide)] at hR
  have HRE := hid hR
  clear h hB1 hv ht h1 hR hc
  go_enter Try.func66, Try.ntmps66
  go_upto_region 1 with fail
  rw [← hw1]
  clear hw1
  go_upto_region 2 with fail
  go_loopw [10] (RPutRel w1 l mo) (fun t _ => mo - (intOf t).toNat)
  case atStart => exact ⟨0, Nat.zero_le _, rfl, fun j hj => by omega, rfl⟩
  case round =>
    obtain ⟨i, hi_, rfl, hx, rfl⟩ := hrel
    by_cases hlt : i < mo
    · obtain ⟨p0, p1, p2, p3, p4, p5, p6⟩ := H1.out.at_ i hlt
      by_cases hin : (i : Int) ∈ nums l
      · rw [plc_in hin] at p0
        simp only at p0
        have hx1 : Hid (∀ j : Nat, j < i + 1 → (j : Int) ∈ nums l) := fun j hj => by
          by_cases e : j = i
          · rw [e]; exact hin
          · exact hx.out j (by omega)
        clear p1 p2 p3 p4 p5 p6 hin
        go_wp2
        exact ⟨⟨i + 1, by omega, by go_num, hx1, rfl⟩, by simp [intOf]; omega⟩
      · have hlow : low l = i := low_eq hin hx.out
        have hll : l.length < mo := low_full HV.out.ok (by omega)
        have hok2 : Ok mo (l ++ [((i : Int), p)]) := HV.out.ok.add (by omega) (by omega) hin hp
        obtain ⟨q1, q2⟩ := plc_add (wh := wh) (ev := (ev : Int)) (c := (o, hi, lo)) (r := rt) HV.out hlt hin hok2
        have hset := H1.out.set hlt q1 q2
        have hRR := HRE.out
        rw [if_neg (by omega), hlow] at hRR
        subst hRR
        rw [plc_out hin] at p0 p1 p2 p3 p4 p5 p6
        simp only [pc0] at p0 p1 p2 p3 p4 p5 p6
        have hbs : But (· = b) w1 (set7 w1 b (i * 7) ⟨true, (o, hi, lo), rt, p, (ev : Int)⟩) := set7_but (S := (· = b)) (But.refl _ _) rfl _ _
        have hfin : ∀ W : World, W = ((set7 w1 b (i * 7) ⟨true, (o, hi, lo), rt, p, (ev : Int)⟩).drew.setCell ⟨r, 1, none⟩ (.int .i64 ((ev : Int) + 1))) → RDone w r b mo ⟨(i : Int), 0, X.set i ((o, hi, lo), rt), l ++ [((i : Int), p)]⟩ wh ev (.returned (.tuple #[.int .i64 (i : Int), .int .i64 0])) W := by
          rintro W rfl
          have hR2 := hset.later (Below.refl _ _).drew
          refine ⟨rfl, ⟨_, ev + 1, ⟨cell_ne hR2.c0 (by omega), ?_, fun j hj => ?_, fun j => ?_, by simpa using hR2.ltb, hR2.ne, hR2.big⟩, HT.out.add hin, Nat.le_refl _⟩, ?_⟩
          · have := hR2.c1.put (u := .int .i64 ((ev : Int) + 1))
            simpa using this
          · exact (hR2.at_ j hj).but ((But.refl (· = r) _).setCell (p := ⟨r, 1, none⟩) rfl _) (fun e => hR2.ne e.symm)
          · have := hR2.fr j
            simpa using this
          · exact (((But.of HB1.out).trans (hbs.mono (fun k e => .inr e))).call (Below.refl _ _).drew).setCell (p := ⟨r, 1, none⟩) (.inl rfl) _
        have HF := hid hfin
        have y1 := (hset.later (Below.refl _ _).drew).c1.1
        have y1' := (hset.later (Below.refl _ _).drew).c1.2
        obtain ⟨w7, hw7⟩ : ∃ w7, w7 = (set7 w1 b (i * 7) ⟨true, (o, hi, lo), rt, p, (ev : Int)⟩).drew := ⟨_, rfl⟩
        rw [← hw7] at y1 y1' HF
        clear hset hfin hbs q1 q2 hok2 hx hin hp
        go_upto_region 5 with fail
        go_region
        rw [show ((((((((w1.setCell ⟨b, i * 7, none⟩ (.bool true)).setCell ⟨b, i * 7 + 1, none⟩ (.int .i64 o)).setCell ⟨b, i * 7 + 2, none⟩ (.int .u64 (hi : Int))).setCell ⟨b, i * 7 + 3, none⟩ (.int .u64 (lo : Int))).setCell ⟨b, i * 7 + 4, none⟩ (.int .i64 rt)).setCell ⟨b, i * 7 + 5, none⟩ (.int .i64 p)).setCell ⟨b, i * 7 + 6, none⟩ (.int .i64 (ev : Int))).drew) = w7 from hw7.symm]
        clear hw7
        go_wp2
        exact bodyPost_ret (v := .tuple #[.int .i64 (i : Int), .int .i64 0]) (by simp [results, Try.results66, go_sem]) rfl (HF.out _ rfl)
    · obtain rfl : i = mo := by omega
      have hll : l.length = i := by
        have h1 := low_bound hx.out
        have h2 := HV.out.ok.len
        omega
      have hRR := HRE.out
      rw [if_pos hll] at hRR
      subst hRR
      have HF : Hid (RDone w r b i ⟨0, 10, X, l⟩ wh ev (.returned (.tuple #[.int .i64 0, .int .i64 10])) w1) := ⟨rfl, ⟨wh, ev, H1.out, HT.out, by omega⟩, But.of HB1.out⟩
      clear hll
      go_wp2
      exact bodyPost_ret (v := .tuple #[.int .i64 0, .int .i64 10]) (by simp [results, Try.results66, go_sem]) rfl HF.out
end Go.Proofs.Ytlelglfdamakaaa
namespace Go.Proofs.Ytlelglfdamakaaa
open Go.RowKit Go.Shelf H
set_option linter.unusedVariables false

theorem RDone.same {w w' : World} {r b mo : Nat} {X : List Tk} {l : Fo} {wh : Int → Int} {ev : Nat} {c : Int} (h : Rf w r b mo X l wh ev) (ht : Tim l wh ev) (hb : Below w.heap.size w w') : RDone w r b mo ⟨0, c, X, l⟩ wh ev (.returned (.tuple #[.int .i64 0, .int .i64 c])) w' :=
  ⟨rfl, ⟨wh, ev, h.later hb, ht, by omega⟩, But.of hb⟩
theorem RDone.pre {w W w' : World} {r b mo : Nat} {R : Res} {wh : Int → Int} {ev : Nat} {e : Ending} (hb : Below w.heap.size w W) (h : RDone W r b mo R wh ev e w') : RDone w r b mo R wh ev e w' := ⟨h.1, h.2.1, (But.of hb).trans h.2.2⟩
theorem inN_pos {X : List Tk} {l : Fo} {o : Int} : 0 < inN X l o ↔ hasO X l o = true := by
  unfold inN
  rw [hasO_iff, List.length_pos_iff_exists_mem]
  constructor
  · rintro ⟨n, hn⟩
    rw [List.mem_filter, decide_eq_true_eq] at hn
    exact ⟨n, hn.1, hn.2⟩
  · rintro ⟨n, h1, h2⟩
    exact ⟨n, List.mem_filter.2 ⟨h1, decide_eq_true h2⟩⟩
theorem inN_le {m : Nat} {X : List Tk} {l : Fo} (h : Ok m l) (o : Int) : inN X l o ≤ m := by
  unfold inN
  have := List.length_filter_le (fun n => decide (ob X n = o)) (nums l)
  rw [nums_len] at this
  exact Nat.le_trans this h.len
set_option maxRecDepth 100000 in
set_option maxHeartbeats 2000000 in
theorem rroot_any {w : World} {r b mo : Nat} {X : List Tk} {l : Fo} {wh : Int → Int} {ev : Nat} (h : Rf w r b mo X l wh ev) (hv : Inv mo X l) (ht : Tim l wh ev) (he : ev < 9223372036854775807) (c : Cp) (rt : Int) (hw : c.2.1 < B64 ∧ c.2.2 < B64) :
    Calls Try.prog 41 #[.pointer (some ⟨r, 0, none⟩), cpV c, .int .i64 rt] w (RDone w r b mo (rootR mo X l c rt) wh ev) := by
  obtain ⟨o, hi, lo⟩ := c
  obtain ⟨w1, hw1⟩ : ∃ w1, w1 = w.alloc (Obj.cells #[.int .i64 o, .int .u64 (hi : Int), .int .u64 (lo : Int)] 32) := ⟨_, rfl⟩
  have hB1 : Below w.heap.size w w1 := by rw [hw1]; exact below1 _ _
  have z0 : w1.cell? ⟨w.heap.size, 0, none⟩ = some (.int .i64 o) := by rw [hw1]; simp [go_sem]
  have z1 : w1.cell? ⟨w.heap.size, 1, none⟩ = some (.int .u64 (hi : Int)) := by rw [hw1]; simp [go_sem]
  have z2 : w1.cell? ⟨w.heap.size, 2, none⟩ = some (.int .u64 (lo : Int)) := by rw [hw1]; simp [go_sem]
  have HH := hid h
  have HT := hid ht
  have HB1 := hid hB1
  have hin := hid (rin_any (h.later hB1) hv.ok o)
  have hle := inN_le (X := X) hv.ok o
  have hbig := h.big
  obtain ⟨R, hR⟩ : ∃ R, R = rootR mo X l (o, hi, lo) rt := ⟨_, rfl⟩
  rw [← hR]
  unfold rootR at hR
  by_cases hvl : validB rt = true
  · rw [if_neg (by rw [hvl]; decide)] at hR
    by_cases ho : hasO X l o = true
    · rw [if_pos ho] at hR
      subst hR
      have hp : (0 : Int) < (inN X l o : Int) := by have := inN_pos.2 ho; omega
      clear h hv ht hB1 ho
      generalize inN X l o = ni at *
      go_enter Try.func41, Try.ntmps41
      go_upto_region 1 with fail
      rw [← hw1]
      clear hw1
      go_wp2_with (first | (go_at_call 65; refine hin.out.mono ?_; rintro e w9 ⟨rfl, hw9⟩; obtain rfl := hw9.symm; clear hw9) | (go_at_call 64; refine (rvalid_any _ _).mono ?_; rintro e w9 ⟨rfl, hw9⟩; obtain rfl := hw9.symm; clear hw9; rw [hvl]))
      exact bodyPost_ret (v := .tuple #[.int .i64 0, .int .i64 19]) (by simp [results, Try.results41, go_sem]) rfl (RDone.same HH.out HT.out HB1.out)
    · rw [if_neg ho] at hR
      have hc : hasC X l (o, hi, lo) = false := by
        cases hc : hasC X l (o, hi, lo) with
        | false => rfl
        | true => exact absurd (hasO_of_hasC hc) ho
      have hn0 : inN X l o = 0 := by
        rcases Nat.eq_zero_or_pos (inN X l o) with h0 | h0
        · exact h0
        · exact absurd (inN_pos.1 h0) ho
      rw [hn0] at hin
      have hpu := hid (rput_any (h.later hB1) hv ht he o hi lo rt (-1) hc hw (.inl rfl))
      subst hR
      generalize addR mo X l (-1) (o, hi, lo) rt = R at *
      clear h hv ht hB1 ho hc hn0 hle
      go_enter Try.func41, Try.ntmps41
      go_upto_region 1 with fail
      rw [← hw1]
      clear hw1
      go_wp2_with (first | (go_at_call 66; refine hpu.out.mono ?_; rintro e w3 hd; have hd1 := hd.1; subst hd1; have HD := hid hd; clear hd) | (go_at_call 65; refine hin.out.mono ?_; rintro e w9 ⟨rfl, hw9⟩; obtain rfl := hw9.symm; clear hw9) | (go_at_call 64; refine (rvalid_any _ _).mono ?_; rintro e w9 ⟨rfl, hw9⟩; obtain rfl := hw9.symm; clear hw9; rw [hvl]))
      exact bodyPost_ret (v := .tuple #[.int .i64 R.num, .int .i64 R.code]) (by simp [results, Try.results41, go_sem]) rfl (HD.out.pre HB1.out)
  · have hvl' : validB rt = false := by simpa using hvl
    rw [if_pos hvl'] at hR
    subst hR
    clear h hv ht hB1
    go_enter Try.func41, Try.ntmps41
    go_upto_region 1 with fail
    rw [← hw1]
    clear hw1
    go_wp2_with (first | (go_at_call 64; refine (rvalid_any _ _).mono ?_; rintro e w9 ⟨rfl, hw9⟩; obtain rfl := hw9.symm; clear hw9; rw [hvl']))
    exact bodyPost_ret (v := .tuple #[.int .i64 0, .int .i64 4]) (by simp [results, Try.results41, go_sem]) rfl (RDone.same HH.out HT.out HB1.out)
set_option maxRecDepth 100000 in
set_option maxHeartbeats 4000000 in
theorem rchild_any {w : World} {r b mo : Nat} {X : List Tk} {l : Fo} {wh : Int → Int} {ev : Nat} (h : Rf w r b mo X l wh ev) (hv : Inv mo X l) (ht : Tim l wh ev) (he : ev < 9223372036854775807) (p : Int) (c : Cp) (rt : Int) (hw : c.2.1 < B64 ∧ c.2.2 < B64) :
    Calls Try.prog 42 #[.pointer (some ⟨r, 0, none⟩), .int .i64 p, cpV c, .int .i64 rt] w (RDone w r b mo (childR mo X l p c rt) wh ev) := by
  obtain ⟨o, hi, lo⟩ := c
  obtain ⟨w1, hw1⟩ : ∃ w1, w1 = w.alloc (Obj.cells #[.int .i64 o, .int .u64 (hi : Int), .int .u64 (lo : Int)] 32) := ⟨_, rfl⟩
  have hB1 : Below w.heap.size w w1 := by rw [hw1]; exact below1 _ _
  have HZ : Hid (∀ W, Below w1.heap.size w1 W → W.cell? ⟨w.heap.size, 0, none⟩ = some (.int .i64 o) ∧ W.cell? ⟨w.heap.size, 1, none⟩ = some (.int .u64 (hi : Int)) ∧ W.cell? ⟨w.heap.size, 2, none⟩ = some (.int .u64 (lo : Int))) := fun W hW => ⟨cell_later hW (by rw [hw1]; simp [go_sem]), cell_later hW (by rw [hw1]; simp [go_sem]), cell_later hW (by rw [hw1]; simp [go_sem])⟩
  have HH := hid h
  have HT := hid ht
  have HB1 := hid hB1
  have H1 := hid (h.later hB1)
  have HV := hid hv
  have his := hid (ris_any (h.later hB1) hv.ok.range p)
  have hbig := h.big
  obtain ⟨R, hR⟩ : ∃ R, R = childR mo X l p (o, hi, lo) rt := ⟨_, rfl⟩
  rw [← hR]
  unfold childR at hR
  clear h hv ht hB1
  by_cases hp : p ∈ nums l
  · rw [if_neg (fun hn => hn hp)] at hR
    rw [decide_eq_true hp] at his
    have hrn := HV.out.ok.range p hp
    obtain ⟨k, rfl⟩ : ∃ k : Nat, p = (k : Int) := ⟨p.toNat, by omega⟩
    have hk : k < mo := by omega
    have hval := HV.out.val (k : Int) hp
    have hP := fun W (hW : Below w1.heap.size w1 W) => ((H1.out.later hW).at_ k hk)
    rw [plc_in hp] at hP
    have HP : Hid (∀ W, Below w1.heap.size w1 W → W.cell? ⟨r, 0, none⟩ = some (.slice (some ⟨b, 0, none⟩) mo mo) ∧ W.cell? ⟨b, k * 7 + 1, none⟩ = some (.int .i64 (ob X (k : Int))) ∧ W.cell? ⟨b, k * 7 + 4, none⟩ = some (.int .i64 (rg X (k : Int)))) := fun W hW => ⟨(H1.out.later hW).c0, (hP W hW).c1, (hP W hW).c4⟩
    have HPU := hid (fun (hc : hasC X l (o, hi, lo) = false) W (hW : Below w1.heap.size w1 W) => rput_any (H1.out.later hW) HV.out HT.out he o hi lo rt (k : Int) hc hw (.inr hp))
    have HFI := hid (fun W (hW : Below w1.heap.size w1 W) => rfind_any (H1.out.later hW) HV.out o hi lo)
    generalize ob X (k : Int) = oo at *
    generalize rg X (k : Int) = rr at *
    obtain ⟨y0, y1, y4⟩ := HP.out w1 (Below.refl _ _)
    obtain ⟨z0, z1, z2⟩ := HZ.out w1 (Below.refl _ _)
    clear hP hp hrn
    by_cases ho : oo = o
    · subst ho
      rw [if_neg (fun hn => hn rfl)] at hR
      by_cases hpt : partB rt rr = true
      · rw [if_neg (by rw [hpt]; decide)] at hR
        have hpa := hid (fun W => rpart_any rt rr hval W)
        rw [hpt] at hpa
        by_cases hc : hasC X l (oo, hi, lo) = true
        · unfold addR at hR
          rw [if_pos hc] at hR
          subst hR
          rw [hc] at HFI
          generalize findN X l (oo, hi, lo) = fn at *
          go_enter Try.func42, Try.ntmps42
          go_upto_region 1 with fail
          rw [← hw1]
          clear hw1
          go_upto_region 3 with (first | (go_at_call 67; refine his.out.mono ?_; rintro e w9 ⟨rfl, hw9⟩; obtain rfl := hw9.symm; clear hw9))
          go_quiet (fail)
          have HBq := hid (below_drewN (Below.refl w1.heap.size w1) nq)
          generalize hwq : w1.drewN nq = w2 at HBq ⊢
          obtain ⟨v0, v1, v4⟩ := HP.out w2 HBq.out
          obtain ⟨u0, u1_, u2_⟩ := HZ.out w2 HBq.out
          clear hwq y0 y1 y4 z0 z1 z2
          go_wp2_with (first | (go_at_call 22; refine (HFI.out _ HBq.out).mono ?_; rintro e w3 ⟨rfl, hb3⟩; have HB3 := hid (below_call HBq.out hb3); clear hb3) | (go_at_call 49; refine (hpa.out _).mono ?_; rintro e w9 ⟨rfl, hw9⟩; obtain rfl := hw9.symm; clear hw9))
          exact bodyPost_ret (v := .tuple #[.int .i64 0, .int .i64 19]) (by simp [results, Try.results42, go_sem]) rfl (RDone.same HH.out HT.out (below_call HB1.out HB3.out))
        · have hc' : hasC X l (oo, hi, lo) = false := by simpa using hc
          have hpu := hid (HPU.out hc')
          rw [hc'] at HFI
          generalize findN X l (oo, hi, lo) = fn at *
          subst hR
          generalize addR mo X l (k : Int) (oo, hi, lo) rt = R at *
          go_enter Try.func42, Try.ntmps42
          go_upto_region 1 with fail
          rw [← hw1]
          clear hw1
          go_upto_region 3 with (first | (go_at_call 67; refine his.out.mono ?_; rintro e w9 ⟨rfl, hw9⟩; obtain rfl := hw9.symm; clear hw9))
          go_quiet (fail)
          have HBq := hid (below_drewN (Below.refl w1.heap.size w1) nq)
          generalize hwq : w1.drewN nq = w2 at HBq ⊢
          obtain ⟨v0, v1, v4⟩ := HP.out w2 HBq.out
          obtain ⟨u0, u1_, u2_⟩ := HZ.out w2 HBq.out
          clear hwq y0 y1 y4 z0 z1 z2
          go_upto_region 8 with (first | (go_at_call 22; refine (HFI.out _ HBq.out).mono ?_; rintro e w3 ⟨rfl, hb3⟩; have HB3 := hid (below_call HBq.out hb3); clear hb3) | (go_at_call 49; refine (hpa.out _).mono ?_; rintro e w9 ⟨rfl, hw9⟩; obtain rfl := hw9.symm; clear hw9))
          clear u0 u1_ u2_ v0 v1 v4
          obtain ⟨u0, u1_, u2_⟩ := HZ.out w3 HB3.out
          have HPU3 := hid (hpu.out _ HB3.out)
          go_wp2_with (first | (go_at_call 66; refine HPU3.out.mono ?_; rintro e w4 hd; have hd1 := hd.1; subst hd1; have HD := hid hd; clear hd))
          exact bodyPost_ret (v := .tuple #[.int .i64 R.num, .int .i64 R.code]) (by simp [results, Try.results42, go_sem]) rfl (HD.out.pre (below_call HB1.out HB3.out))
      · have hpt' : partB rt rr = false := by simpa using hpt
        rw [if_pos hpt'] at hR
        subst hR
        have hpa := hid (fun W => rpart_any rt rr hval W)
        rw [hpt'] at hpa
        go_enter Try.func42, Try.ntmps42
        go_upto_region 1 with fail
        rw [← hw1]
        clear hw1
        go_upto_region 3 with (first | (go_at_call 67; refine his.out.mono ?_; rintro e w9 ⟨rfl, hw9⟩; obtain rfl := hw9.symm; clear hw9))
        go_quiet (fail)
        have HBq := hid (below_drewN (Below.refl w1.heap.size w1) nq)
        generalize hwq : w1.drewN nq = w2 at HBq ⊢
        obtain ⟨v0, v1, v4⟩ := HP.out w2 HBq.out
        clear hwq y0 y1 y4 z0 z1 z2
        go_wp2_with (first | (go_at_call 49; refine (hpa.out _).mono ?_; rintro e w9 ⟨rfl, hw9⟩; obtain rfl := hw9.symm; clear hw9))
        exact bodyPost_ret (v := .tuple #[.int .i64 0, .int .i64 4]) (by simp [results, Try.results42, go_sem]) rfl (RDone.same HH.out HT.out (below_call HB1.out HBq.out))
    · rw [if_pos ho] at hR
      subst hR
      have hbn : (oo == o) = false := by simp [ho]
      have hbn2 : (oo != o) = true := by simp [ho]
      go_enter Try.func42, Try.ntmps42
      go_upto_region 1 with fail
      rw [← hw1]
      clear hw1
      go_upto_region 3 with (first | (go_at_call 67; refine his.out.mono ?_; rintro e w9 ⟨rfl, hw9⟩; obtain rfl := hw9.symm; clear hw9))
      go_quiet (fail)
      have HBq := hid (below_drewN (Below.refl w1.heap.size w1) nq)
      generalize hwq : w1.drewN nq = w2 at HBq ⊢
      clear hwq y0 y1 y4 z0 z1 z2
      go_wp2
      exact bodyPost_ret (v := .tuple #[.int .i64 0, .int .i64 3]) (by simp [results, Try.results42, go_sem]) rfl (RDone.same HH.out HT.out (below_call HB1.out HBq.out))
  · rw [if_pos hp] at hR
    subst hR
    rw [decide_eq_false hp] at his
    go_enter Try.func42, Try.ntmps42
    go_upto_region 1 with fail
    rw [← hw1]
    clear hw1
    go_wp2_with (first | (go_at_call 67; refine his.out.mono ?_; rintro e w9 ⟨rfl, hw9⟩; obtain rfl := hw9.symm; clear hw9))
    exact bodyPost_ret (v := .tuple #[.int .i64 0, .int .i64 20]) (by simp [results, Try.results42, go_sem]) rfl (RDone.same HH.out HT.out HB1.out)
end Go.Proofs.Ytlelglfdamakaaa
