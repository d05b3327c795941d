import Derived.Test.YtciidjhadijhdaaRC
namespace Go.Proofs.Ytciidjhadijhdaa
open Go.RowKit Go.Shelf H
set_option linter.unusedVariables false

/-! ### put -/
/-- The times of putting in rise along the forest. -/
structure Tim (l : Fo) (wh : Int → Int) (ev : Nat) : Prop where
  ord : l.Pairwise (fun a b => wh a.1 < wh b.1)
  rng : ∀ x ∈ nums l, 0 ≤ wh x ∧ wh x < (ev : Int)
theorem Tim.add {l : Fo} {wh : Int → Int} {ev : Nat} (h : Tim l wh ev) {n p : Int} (hn : n ∉ nums l) : Tim (l ++ [(n, p)]) (fun x => if x = n then (ev : Int) else wh x) (ev + 1) := by
  have hne : ∀ x ∈ nums l, x ≠ n := fun x hx e => hn (e ▸ hx)
  refine ⟨?_, fun x hx => ?_⟩
  · rw [List.pairwise_append]
    refine ⟨h.ord.imp_of_mem (fun {a b} ha hb hab => ?_), by simp, fun a ha b hb => ?_⟩
    · rw [if_neg (hne _ (mem_nums.2 ⟨a.2, ha⟩)), if_neg (hne _ (mem_nums.2 ⟨b.2, hb⟩))]
      exact hab
    · rw [List.mem_singleton] at hb
      subst hb
      have ha' := mem_nums.2 ⟨a.2, ha⟩
      rw [if_neg (hne _ ha'), if_pos rfl]
      exact (h.rng _ ha').2
  · rw [nums_app, List.mem_append, List.mem_singleton] at hx
    rcases hx with hx | rfl
    · rw [if_neg (hne x hx)]
      have := h.rng x hx
      omega
    · rw [if_pos rfl]; omega
theorem plc_add {m : Nat} {X : List Tk} {l : Fo} {wh : Int → Int} {ev : Int} (h : Inv m X l) {k : Nat} {p : Int} {c : Cp} {r : Int} (hk : k < m) (hn : (k : Int) ∉ nums l) (hok : Ok m (l ++ [((k : Int), p)])) :
    plc (X.set k (c, r)) (l ++ [((k : Int), p)]) (fun x => if x = (k : Int) then ev else wh x) (k : Int) = ⟨true, c, r, p, ev⟩ ∧ ∀ i : Nat, i < m → i ≠ k → plc (X.set k (c, r)) (l ++ [((k : Int), p)]) (fun x => if x = (k : Int) then ev else wh x) (i : Int) = plc X l wh (i : Int) := by
  have hlen : k < X.length := by rw [h.len]; exact hk
  constructor
  · rw [plc_in (by rw [nums_app]; simp)]
    unfold rg
    rw [tk_set_same _ hlen, par_eq hok (p := p) (List.mem_append_right _ (List.mem_singleton.2 rfl)), if_pos rfl]
  · intro i hi hne
    have hne' : (i : Int) ≠ (k : Int) := by omega
    by_cases hin : (i : Int) ∈ nums l
    · rw [plc_in hin, plc_in (by rw [nums_app]; exact List.mem_append_left _ hin)]
      unfold rg
      obtain ⟨q, hq⟩ := mem_nums.1 hin
      rw [tk_set_other _ (by omega) hne', par_eq h.ok hq, par_eq hok (List.mem_append_left _ hq), if_neg hne']
    · rw [plc_out hin, plc_out (fun hm => by
        rw [nums_app, List.mem_append, List.mem_singleton] at hm
        rcases hm with hm | hm
        · exact hin hm
        · exact hne' hm)]
def RPutRel (w1 : World) (l : Fo) (mo : Nat) (t : Value) (w' : World) : Prop :=
  ∃ i : Nat, i ≤ mo ∧ t = .int .i64 (i : Int) ∧ Hid (∀ j : Nat, j < i → (j : Int) ∈ nums l) ∧ w1 = w'
/-- Behind the document's putting in. -/
def RDone (w : World) (r b mo : Nat) (R : Res) (wh : Int → Int) (ev : Nat) (e : Ending) (w' : World) : Prop :=
  e = .returned (.tuple #[.int .i64 R.num, .int .i64 R.code]) ∧ (∃ wh' ev', Rf w' r b mo R.X R.l wh' ev' ∧ Tim R.l wh' ev' ∧ ev' ≤ ev + 1) ∧ But (fun k => k = r ∨ k = b) w w'
set_option maxRecDepth 100000 in
set_option maxHeartbeats 4000000 in
theorem rput_any {w : World} {r b mo : Nat} {X : List Tk} {l : Fo} {wh : Int → Int} {ev : Nat} (h : Rf w r b mo X l wh ev) (hv : Inv mo X l) (ht : Tim l wh ev) (he : ev < 9223372036854775807) (o : Int) (hi lo : Nat) (rt p : Int) (hc : hasC X l (o, hi, lo) = false) (hw : hi < B64 ∧ lo < B64) (hp : p = -1 ∨ p ∈ nums l) :
    Calls Try.prog 43 #[.pointer (some ⟨r, 0, none⟩), .agg #[.int .i64 o, .int .u64 (hi : Int), .int .u64 (lo : Int)], .int .i64 rt, .int .i64 p] w (RDone w r b mo (addR mo X l p (o, hi, lo) rt) wh ev) := by
  obtain ⟨w1, hw1⟩ : ∃ w1, w1 = w.alloc (Obj.cells #[.int .i64 o, .int .u64 (hi : Int), .int .u64 (lo : Int)] 57) := ⟨_, rfl⟩
  have hB1 : Below w.heap.size w w1 := by rw [hw1]; exact below1 _ _
  have z0 : w1.cell? ⟨w.heap.size, 0, none⟩ = some (.int .i64 o) := by rw [hw1]; simp [go_sem]
  have z1 : w1.cell? ⟨w.heap.size, 1, none⟩ = some (.int .u64 (hi : Int)) := by rw [hw1]; simp [go_sem]
  have z2 : w1.cell? ⟨w.heap.size, 2, none⟩ = some (.int .u64 (lo : Int)) := by rw [hw1]; simp [go_sem]
  have h1 := h.later hB1
  have x0 := h1.c0
  have x1 := h1.c1.1
  have x1' := h1.c1.2
  have hbig := h.big
  have hne := h.ne
  have hsb : ¬ w.heap.size = b := by have := h.ltb; omega
  have H1 := hid h1
  have HV := hid hv
  have HT := hid ht
  have HB1 := hid hB1
  have hfr := h1.fr
  obtain ⟨R, hR⟩ : ∃ R, R = addR mo X l p (o, hi, lo) rt := ⟨_, rfl⟩
  rw [← hR]
  unfold addR at hR
  rw [if_neg (by rw [hc]; decide)] at hR
  have HRE := hid hR
  clear h hB1 hv ht h1 hR hc
  go_enter Try.func43, Try.ntmps43
  go_upto_region 1 with fail
  rw [← hw1]
  clear hw1
  go_upto_region 2 with fail
  go_loopw [10] (RPutRel w1 l mo) (fun t _ => mo - (intOf t).toNat)
  case atStart => exact ⟨0, Nat.zero_le _, rfl, fun j hj => by omega, rfl⟩
  case round =>
    obtain ⟨i, hi_, rfl, hx, rfl⟩ := hrel
    by_cases hlt : i < mo
    · obtain ⟨p0, p1, p2, p3, p4, p5, p6⟩ := H1.out.at_ i hlt
      by_cases hin : (i : Int) ∈ nums l
      · rw [plc_in hin] at p0
        simp only at p0
        have hx1 : Hid (∀ j : Nat, j < i + 1 → (j : Int) ∈ nums l) := fun j hj => by
          by_cases e : j = i
          · rw [e]; exact hin
          · exact hx.out j (by omega)
        clear p1 p2 p3 p4 p5 p6 hin
        go_wp2
        exact ⟨⟨i + 1, by omega, by go_num, hx1, rfl⟩, by simp [intOf]; omega⟩
      · have hlow : low l = i := low_eq hin hx.out
        have hll : l.length < mo := low_full HV.out.ok (by omega)
        have hok2 : Ok mo (l ++ [((i : Int), p)]) := HV.out.ok.add (by omega) (by omega) hin hp
        obtain ⟨q1, q2⟩ := plc_add (wh := wh) (ev := (ev : Int)) (c := (o, hi, lo)) (r := rt) HV.out hlt hin hok2
        have hset := H1.out.set hlt q1 q2
        have hRR := HRE.out
        rw [if_neg (by omega), hlow] at hRR
        subst hRR
        rw [plc_out hin] at p0 p1 p2 p3 p4 p5 p6
        simp only [pc0] at p0 p1 p2 p3 p4 p5 p6
        have hbs : But (· = b) w1 (set7 w1 b (i * 7) ⟨true, (o, hi, lo), rt, p, (ev : Int)⟩) := set7_but (S := (· = b)) (But.refl _ _) rfl _ _
        have hfin : ∀ W : World, W = ((set7 w1 b (i * 7) ⟨true, (o, hi, lo), rt, p, (ev : Int)⟩).drew.setCell ⟨r, 1, none⟩ (.int .i64 ((ev : Int) + 1))) → RDone w r b mo ⟨(i : Int), 0, X.set i ((o, hi, lo), rt), l ++ [((i : Int), p)]⟩ wh ev (.returned (.tuple #[.int .i64 (i : Int), .int .i64 0])) W := by
          rintro W rfl
          have hR2 := hset.later (Below.refl _ _).drew
          refine ⟨rfl, ⟨_, ev + 1, ⟨cell_ne hR2.c0 (by omega), ?_, fun j hj => ?_, fun j => ?_, by simpa using hR2.ltb, hR2.ne, hR2.big⟩, HT.out.add hin, Nat.le_refl _⟩, ?_⟩
          · have := hR2.c1.put (u := .int .i64 ((ev : Int) + 1))
            simpa using this
          · exact (hR2.at_ j hj).but ((But.refl (· = r) _).setCell (p := ⟨r, 1, none⟩) rfl _) (fun e => hR2.ne e.symm)
          · have := hR2.fr j
            simpa using this
          · exact (((But.of HB1.out).trans (hbs.mono (fun k e => .inr e))).call (Below.refl _ _).drew).setCell (p := ⟨r, 1, none⟩) (.inl rfl) _
        have HF := hid hfin
        have y1 := (hset.later (Below.refl _ _).drew).c1.1
        have y1' := (hset.later (Below.refl _ _).drew).c1.2
        obtain ⟨w7, hw7⟩ : ∃ w7, w7 = (set7 w1 b (i * 7) ⟨true, (o, hi, lo), rt, p, (ev : Int)⟩).drew := ⟨_, rfl⟩
        rw [← hw7] at y1 y1' HF
        clear hset hfin hbs q1 q2 hok2 hx hin hp
        go_upto_region 5 with fail
        go_region
        rw [show ((((((((w1.setCell ⟨b, i * 7, none⟩ (.bool true)).setCell ⟨b, i * 7 + 1, none⟩ (.int .i64 o)).setCell ⟨b, i * 7 + 2, none⟩ (.int .u64 (hi : Int))).setCell ⟨b, i * 7 + 3, none⟩ (.int .u64 (lo : Int))).setCell ⟨b, i * 7 + 4, none⟩ (.int .i64 rt)).setCell ⟨b, i * 7 + 5, none⟩ (.int .i64 p)).setCell ⟨b, i * 7 + 6, none⟩ (.int .i64 (ev : Int))).drew) = w7 from hw7.symm]
        clear hw7
        go_wp2
        exact bodyPost_ret (v := .tuple #[.int .i64 (i : Int), .int .i64 0]) (by simp [results, Try.results43, go_sem]) rfl (HF.out _ rfl)
    · obtain rfl : i = mo := by omega
      have hll : l.length = i := by
        have h1 := low_bound hx.out
        have h2 := HV.out.ok.len
        omega
      have hRR := HRE.out
      rw [if_pos hll] at hRR
      subst hRR
      have HF : Hid (RDone w r b i ⟨0, 10, X, l⟩ wh ev (.returned (.tuple #[.int .i64 0, .int .i64 10])) w1) := ⟨rfl, ⟨wh, ev, H1.out, HT.out, by omega⟩, But.of HB1.out⟩
      clear hll
      go_wp2
      exact bodyPost_ret (v := .tuple #[.int .i64 0, .int .i64 10]) (by simp [results, Try.results43, go_sem]) rfl HF.out
end Go.Proofs.Ytciidjhadijhdaa
