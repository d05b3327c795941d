import Derived.Test.YtnjadfgfpebkdaaGreatMT
import Derived.BigQuiet
namespace Go.Proofs.YtnjadfgfpebkdaaGreat
open Go.RowKit Go.Shelf H
set_option linter.unusedVariables false

/-! ### Of -/
theorem rootOf_in {X : List Tk} {l : Fo} {o r : Int} (h : rootOf X l o = some r) : (r, -1) ∈ l ∧ ob X r = o := by
  unfold rootOf at h
  have h0 := List.find?_some h
  exact of_decide_eq_true h0
/-- What Of has told behind i places. -/
def ofP (mo : Nat) (X : List Tk) (l : Fo) (o : Int) (i : Nat) : List Tok := match rootOf X l o with
  | some r => if r < (i : Int) then (ofF X l mo (G true l r)).2 else []
  | none => []
theorem ofP_zero {mo : Nat} {X : List Tk} {l : Fo} (hok : Ok mo l) (o : Int) : ofP mo X l o 0 = [] := by
  unfold ofP
  cases h : rootOf X l o with
  | none => rfl
  | some r =>
    have := hok.range r (mem_nums.2 ⟨_, (rootOf_in h).1⟩)
    exact if_neg (by omega)
theorem ofP_end {mo : Nat} {X : List Tk} {l : Fo} (hok : Ok mo l) (o : Int) : ofP mo X l o mo = ofL mo X l o := by
  unfold ofP ofL
  cases h : rootOf X l o with
  | none => rfl
  | some r =>
    have := hok.range r (mem_nums.2 ⟨_, (rootOf_in h).1⟩)
    exact if_pos (by omega)
theorem ofP_skip {mo : Nat} {X : List Tk} {l : Fo} {o : Int} {i : Nat} (hn : ((i : Int), -1) ∈ l → ob X (i : Int) ≠ o) : ofP mo X l o (i + 1) = ofP mo X l o i := by
  unfold ofP
  cases h : rootOf X l o with
  | none => rfl
  | some r =>
    have hr := rootOf_in h
    have hne : r ≠ (i : Int) := fun e => by subst e; exact hn hr.1 hr.2
    show (if r < ((i + 1 : Nat) : Int) then _ else _) = (if r < (i : Int) then _ else _)
    by_cases hl : r < (i : Int)
    · rw [if_pos hl, if_pos (by omega)]
    · rw [if_neg hl, if_neg (by omega)]
theorem ofP_hit {mo : Nat} {X : List Tk} {l : Fo} {o : Int} {i : Nat} (h : Inv mo X l) (h1 : ((i : Int), -1) ∈ l) (h2 : ob X (i : Int) = o) : ofP mo X l o i = [] ∧ ofP mo X l o (i + 1) = (ofF X l mo (G true l (i : Int))).2 := by
  have hr := rootOf_some h h1
  rw [h2] at hr
  unfold ofP
  rw [hr]
  exact ⟨if_neg (by omega), if_pos (by omega)⟩
/-- The parent's place in the list. -/
theorem of_at {m : Nat} {X : List Tk} {l : Fo} (h : Ok m l) {r : Int} (hr : (r, -1) ∈ l) {j : Nat} {x : Int} (hx : (G true l r)[j]? = some x) :
    ∃ p : Nat, (ofF X l m (G true l r)).2[j]? = some ((tk X x).1, rg X x, if p < j then (p : Int) else par l x) ∧ ∀ k y, k < j → (G true l r)[k]? = some y → (y = par l x ↔ k = p) := by
  have hsp := (ofF_spec (X := X) h hr (G true l r).length (Nat.le_refl _)).2
  rw [List.take_length] at hsp
  have hnd := G_nodup h true r
  obtain ⟨q, h1, h2⟩ := hsp j x (List.getElem?_eq_some_iff.1 hx).1 hx
  rcases h2 with ⟨rfl, h3, h4⟩ | ⟨h0, p, hp, rfl, h3⟩
  · exact ⟨0, by rw [h1, h3, h4]; simp, fun k y hk => by omega⟩
  · refine ⟨p, by rw [h1, if_pos hp], fun k y hk hy => ⟨fun e => ?_, fun e => ?_⟩⟩
    · rw [e] at hy
      exact nd_idx hnd hy h3
    · subst e
      rw [h3] at hy
      exact (Option.some.inj hy).symm
def Of1 (W : World) (P : Nat → List Tok) (mo : Nat) (v t : Value) (wr : World) : Prop :=
  ∃ (i n : Nat) (a : Option Addr) (c : Nat), i ≤ mo ∧ t = .int .i64 (i : Int) ∧ v = .slice a n c ∧ n = (P i).length ∧ Ow wr W.heap.size 47 5 a n c (toks (P i)) ∧ Below W.heap.size W wr
def Of2 (W w0 w1 : World) (O : List Tok) (Gs : List Int) (a2 : Option Addr) (c2 : Nat) (v t : Value) (wr : World) : Prop :=
  ∃ (j : Nat) (a : Option Addr) (c : Nat), j ≤ Gs.length ∧ t = .int .i64 (j : Int) ∧ v = .slice a j c ∧ Ow wr W.heap.size 47 5 a j c (toks (O.take j)) ∧ (∀ k, Blk a k → k < w0.heap.size ∨ w1.heap.size ≤ k) ∧ Own wr w0.heap.size 3 a2 Gs.length c2 (ints Gs) ∧ Below W.heap.size W wr ∧ w1.heap.size ≤ wr.heap.size
def Of3 (w3 : World) (B : Nat) (c : Cp) (r pr : Int) (p j : Nat) (t : Value) (wr : World) : Prop :=
  ∃ k : Nat, k ≤ j ∧ t = .int .i64 (k : Int) ∧ Cet wr B 0 (c, r, if p < k then (p : Int) else pr) ∧ wr.frozen? ⟨B, 4, none⟩ = false ∧ But (· = B) w3 wr
theorem cet_set {w : World} {B : Nat} {c : Cp} {r q : Int} (h : Cet w B 0 (c, r, q)) (q' : Int) : Cet (w.setCell ⟨B, 4, none⟩ (.int .i64 q')) B 0 (c, r, q') := by
  obtain ⟨h0, h1, h2, h3, h4⟩ := h
  simp only [Nat.zero_add] at h0 h1 h2 h3 h4
  exact ⟨cell_ne h0 (by omega), cell_ne h1 (by omega), cell_ne h2 (by omega), cell_ne h3 (by omega), World.cell?_setCell_same _ _ _ h4⟩
set_option maxRecDepth 100000 in
set_option maxHeartbeats 8000000 in
theorem rof_any {W : World} {r b mo : Nat} {X : List Tk} {l : Fo} {wh : Int → Int} {ev : Nat} (h : Rf W r b mo X l wh ev) (hv : Inv mo X l) (ht : Tim l wh ev) (o : Int) :
    Calls Tryz.prog 20 #[.pointer (some ⟨r, 0, none⟩), .int .i64 o] W fun e w' => ∃ a c, e = .returned (.slice a (ofL mo X l o).length c) ∧ Ow w' W.heap.size 47 5 a (ofL mo X l o).length c (toks (ofL mo X l o)) ∧ Below W.heap.size W w' := by
  have hok := hv.ok
  have HH := hid h
  have hbig := h.big
  have HV := hid hv
  have HDN : Hid (∀ x ∈ nums l, ∀ w', Below W.heap.size W w' → _) := fun x hx w' hw' => rdown_any hok ht x hx w' (h.later hw')
  have HAT : Hid (∀ x, ∀ w', Below W.heap.size W w' → _) := fun x w' hw' => rat_any (h.later hw') hok.range x
  have HOK := hid hok
  have HP0 := hid (ofP_zero (X := X) hok o)
  have HPE := hid (ofP_end (X := X) hok o)
  have HPS : Hid (∀ i : Nat, (((i : Int), -1) ∈ l → ob X (i : Int) ≠ o) → ofP mo X l o (i + 1) = ofP mo X l o i) := fun i hi => ofP_skip hi
  have HPH : Hid (∀ i : Nat, ((i : Int), -1) ∈ l → ob X (i : Int) = o → ofP mo X l o i = [] ∧ ofP mo X l o (i + 1) = (ofF X l mo (G true l (i : Int))).2) := fun i h1 h2 => ofP_hit hv h1 h2
  clear h hv ht hok
  generalize ofL mo X l o = OL at *
  generalize hP : ofP mo X l o = P at *
  clear hP
  go_enter Tryz.func20, Tryz.ntmps20
  go_upto_region 3 with fail
  go_loopw [5, 6] (Of1 W P mo) (fun _ t _ => mo - (intOf t).toNat)
  case atStart => exact ⟨0, 0, none, 0, Nat.zero_le _, rfl, rfl, by rw [HP0.out]; rfl, by rw [HP0.out]; exact Ow.nil _ _ _ _, Below.refl _ _⟩
  case round =>
    obtain ⟨i, n, a, c, hi, rfl, rfl, hn, hO, hB⟩ := hrel
    have hR := HH.out.later hB
    have x0 := hR.c0
    by_cases hlt : i < mo
    · obtain ⟨p0, p1, p2, p3, p4, p5, p6⟩ := hR.at_ i hlt
      clear p2 p3 p4 p6
      by_cases hin : (i : Int) ∈ nums l
      · rw [plc_in hin] at p0 p1 p5
        simp only at p0 p1 p5
        obtain ⟨oo, hoo⟩ : ∃ oo, oo = (tk X (i : Int)).1.1 := ⟨_, rfl⟩
        obtain ⟨pr, hpr⟩ : ∃ pr, pr = par l (i : Int) := ⟨_, rfl⟩
        rw [← hoo] at p1
        rw [← hpr] at p5
        by_cases ho : oo = o
        · have hb1 : (oo != o) = false := by simp [ho]
          by_cases hp : pr = -1
          · have hroot : ((i : Int), -1) ∈ l := by
              obtain ⟨q, hq⟩ := mem_nums.1 hin
              have := par_eq HOK.out hq
              rw [← hpr, hp] at this
              rw [this]
              exact hq
            obtain ⟨e1, e2⟩ := HPH.out i hroot (by unfold ob; rw [← hoo, ho])
            rw [e1] at hn hO
            obtain rfl : n = 0 := hn
            subst hp
            have hp0 : ¬ (0 : Int) ≤ -1 := by omega
            have hdn := hid (HDN.out (i : Int) hin wr hB)
            have HAt : Hid (∀ (j : Nat) (x : Int), (G true l (i : Int))[j]? = some x → _) := fun j x hx => of_at (X := X) HOK.out hroot hx
            have hOl := ofF_len2 X l mo (G true l (i : Int))
            have hGl := G_len HOK.out true (i : Int)
            have HGn : Hid (∀ x ∈ G true l (i : Int), x ∈ nums l ∧ 0 ≤ x ∧ x < (mo : Int)) := fun x hx => by
              have h1 := G_nums HOK.out hx
              have := HOK.out.range x h1
              exact ⟨h1, this.1, this.2⟩
            have HE2 := hid e2
            clear e1 e2 hroot hin hoo hpr hb1
            generalize hGs : G true l (i : Int) = Gs at *
            generalize hOf : (ofF X l mo Gs).2 = O at *
            clear hGs hOf
            subst ho
            have HO := hid hO
            have HB := hid hB
            clear hO hB hR
            go_upto_region 8 with (first | (go_at_call 64; refine hdn.out.mono ?_; rintro e w1 ⟨a2, c2, rfl, hO2, hB2⟩; have HO2 := hid hO2; have HB2 := hid hB2; clear hO2 hB2))
            obtain ⟨w0, hw0⟩ : ∃ w0, w0 = wr := ⟨_, rfl⟩
            have HW0 := hid hw0
            clear hw0
            rw [← HW0.out] at HO2 HB2
            go_loopw [5, 8] (Of2 W w0 w1 O Gs a2 c2) (fun _ t _ => Gs.length - (intOf t).toNat)
            case atStart => rw [← HW0.out] at HO HB; exact ⟨0, a, c, Nat.zero_le _, rfl, rfl, HO.out.later HB2.out, fun k hk => .inl (HO.out.blk k hk).2, HO2.out, below_call HB.out HB2.out, Nat.le_refl _⟩
            case round =>
              obtain ⟨j, a', c', hj, rfl, rfl, hO', hap, hC2, hB', hsz⟩ := hrel
              have hs2 := HB2.out.size
              by_cases hjl : j < Gs.length
              · obtain ⟨ga, rfl⟩ := hC2.form (by omega)
                obtain ⟨x, hx⟩ : ∃ x, Gs[j]? = some x := ⟨_, List.getElem?_eq_getElem hjl⟩
                obtain ⟨p, hOx, hiff⟩ := HAt.out j x hx
                obtain ⟨hxl, hx0, hxm⟩ := HGn.out x (List.mem_of_getElem? hx)
                obtain ⟨k, rfl⟩ : ∃ k : Nat, x = (k : Int) := ⟨x.toNat, by omega⟩
                have hkm : k < mo := by omega
                have hat := HAT.out (k : Int) wr hB'
                rw [tokV, if_pos hxl] at hat
                obtain ⟨pk, hpk⟩ : ∃ pk, pk = par l (k : Int) := ⟨_, rfl⟩
                obtain ⟨rt, hrt⟩ : ∃ rt, rt = rg X (k : Int) := ⟨_, rfl⟩
                have hPL := plc_in (X := X) (wh := wh) hxl
                obtain ⟨⟨ot, ht_, lt_⟩, r0, hxx⟩ : ∃ c r, tk X (k : Int) = (c, r) := ⟨_, _, rfl⟩
                rw [hxx, ← hpk, ← hrt] at hat
                rw [hxx, ← hpk, ← hrt] at hOx
                rw [← hpk] at hiff hPL
                have hts : O.take (j + 1) = O.take j ++ [((ot, ht_, lt_), rt, if p < j then (p : Int) else pk)] := by
                  rw [List.take_add_one, hOx]; rfl
                have hjb : j < 256 := by omega
                have HX := hid hx
                have HIFF := hid hiff
                have HAX := hid hat
                have HPL := hid hPL
                have HPRE : Hid (∀ (w2 w3 : World), Below wr.heap.size wr w2 → w3 = w2.alloc (Obj.cells #[.int .i64 ot, .int .u64 (ht_ : Int), .int .u64 (lt_ : Int), .int .i64 rt, .int .i64 pk] 47) →
                    (∀ W', But (· = w2.heap.size) w3 W' → (∀ (m : Nat) (z : Int), Gs[m]? = some z → W'.cell? ⟨ga, m, none⟩ = some (.int .i64 z)) ∧ Rf W' r b mo X l wh ev ∧
                      ∃ a'' c'' w5, (Builtin.append_ #[44, 44] 44 #[.slice a' j c', .slice (some ⟨W'.heap.size, 0, none⟩) 1 1]).run Tryz.prog (W'.alloc (Obj.cells #[.int .i64 ot, .int .u64 (ht_ : Int), .int .u64 (lt_ : Int), .int .i64 rt, .int .i64 (if p < j then (p : Int) else pk)] 47)) = .ok (.slice a'' (j + 1) c'') w5 ∧ Of2 W w0 w1 O Gs (some ⟨ga, 0, none⟩) c2 (.slice a'' (j + 1) c'') (.int .i64 ((j + 1 : Nat) : Int)) w5)) := by
                  intro w2 w3 hb2 hw3 W' hW'
                  have hbb : Below wr.heap.size wr w3 := below_call hb2 (by rw [hw3]; exact below1 _ _)
                  have hsz2 := hb2.size
                  have hsz3 := hbb.size
                  have hszW := hW'.size
                  have hD := (hC2.later hbb).but hW' (fun q hq e => by have := HO2.out.lt q hq; omega)
                  refine ⟨fun m z hz => ?_, (HH.out.later (below_call hB' hbb)).but hW' (by have := HH.out.ltr; have := hB'.size; show ¬ r = w2.heap.size; omega) (by have := HH.out.ltb; have := hB'.size; show ¬ b = w2.heap.size; omega), ?_⟩
                  · obtain ⟨_, e7, hL7⟩ := hD.lies rfl (j := m) (u := .int .i64 z) (by rw [ints, List.getElem?_map, hz]; rfl)
                    cases e7
                    exact hL7.1
                  · have hO3 := (hO'.later hbb).but hW' (fun q hq e => by have := (hO'.blk q hq).2; omega)
                    have hcr := Cr.lit W' 47 (encT ((ot, ht_, lt_), rt, if p < j then (p : Int) else pk)) (encT_one _)
                    have hbl : Below W'.heap.size W' (W'.alloc (Obj.cells (encT ((ot, ht_, lt_), rt, if p < j then (p : Int) else pk)).toArray 47)) := below1 _ _
                    obtain ⟨a5, c5, w5, hrun, hO5, hG5⟩ := append_k 44 47 _ 5 40 Tryz.underlying44 info47 rfl (by omega) (by omega) (hO3.later hbl) hcr (by have := hB'.size; have := hbl.size; omega) (by omega)
                    have hG5' := hG5.pre hbl
                    refine ⟨a5, c5, w5, hrun, j + 1, a5, c5, by omega, rfl, rfl, by rw [hts, toks_snoc]; exact hO5, fun q hq => ?_, hD.but hG5'.but (fun q hq hq2 => ?_), But.below (But.below (below_call hB' hbb) hW' (fun q e => by have := hB'.size; omega)) hG5'.but (fun q hq => (hO'.blk q hq).1), by have := hG5'.but.size; omega⟩
                    · rcases hG5'.on q hq with h1 | h1
                      · exact hap q h1
                      · exact .inr (by omega)
                    · have h1 := hC2.blk q hq
                      have h2 := HO2.out.lt q hq
                      rcases hap q hq2 with h3 | h3 <;> omega
                have HDC0 := hid (hC2.lies rfl (j := j) (u := .int .i64 (k : Int)) (by rw [ints, List.getElem?_map, hx]; rfl))
                obtain ⟨_, e7, hL7⟩ := HDC0.out
                cases e7
                have y0 := hL7.1
                clear HDC0 hO' hap hC2 hB' hxl hx hiff hat hPL hOx hpk hrt hxx hts hL7 x0 p0 p1 p5
                go_upto_region 11 with (first | (go_at_call 65; refine HAX.out.mono ?_; rintro e w2 ⟨rfl, hb2⟩; have HB6 := hid hb2; clear hb2))
                obtain ⟨w3, hw3⟩ : ∃ w3, w3 = w2.alloc (Obj.cells #[.int .i64 ot, .int .u64 (ht_ : Int), .int .u64 (lt_ : Int), .int .i64 rt, .int .i64 pk] 47) := ⟨_, rfl⟩
                have HW3 := hid (HPRE.out w2 w3 HB6.out hw3)
                have HCE : Hid (Cet w3 w2.heap.size 0 ((ot, ht_, lt_), rt, pk) ∧ w3.frozen? ⟨w2.heap.size, 4, none⟩ = false) := by rw [hw3]; exact ⟨⟨by simp [go_sem], by simp [go_sem], by simp [go_sem], by simp [go_sem], by simp [go_sem]⟩, by simp [go_sem]⟩
                rw [← hw3]
                clear hw3 HPRE y0
                go_upto_region 12 with fail
                go_loopw [11] (Of3 w3 w2.heap.size (ot, ht_, lt_) rt pk p j) (fun t _ => j - (intOf t).toNat)
                case atStart => exact ⟨0, Nat.zero_le _, rfl, HCE.out.1, HCE.out.2, But.refl _ _⟩
                case round =>
                  obtain ⟨k3, hk3, rfl, hce, hfr, hBt⟩ := hrel
                  by_cases hl3 : k3 < j
                  · obtain ⟨y, hy⟩ : ∃ y, Gs[k3]? = some y := ⟨_, List.getElem?_eq_getElem (by omega)⟩
                    obtain ⟨hdc, hRW, -⟩ := HW3.out _ hBt
                    have y1 := hdc k3 y hy
                    have y2 := hdc j (k : Int) HX.out
                    have x0 := hRW.c0
                    have x5 := (hRW.at_ k hkm).c5
                    rw [HPL.out] at x5
                    simp only at x5
                    have hyp := HIFF.out k3 y hl3 hy
                    by_cases hkp : k3 = p
                    · have hb1 : (y == pk) = true := by simp [hyp.2 hkp]
                      subst hkp
                      have c4 := hce.c4
                      simp only [Nat.zero_add] at c4
                      have HCE3 : Hid (∀ nq : Nat, Cet ((wr.drewN nq).setCell ⟨w2.heap.size, 4, none⟩ (.int .i64 (k3 : Int))) w2.heap.size 0 ((ot, ht_, lt_), rt, if k3 < k3 + 1 then (k3 : Int) else pk) ∧ ((wr.drewN nq).setCell ⟨w2.heap.size, 4, none⟩ (.int .i64 (k3 : Int))).frozen? ⟨w2.heap.size, 4, none⟩ = false ∧ But (· = w2.heap.size) w3 ((wr.drewN nq).setCell ⟨w2.heap.size, 4, none⟩ (.int .i64 (k3 : Int)))) := fun nq =>
                        ⟨by rw [if_pos (by omega)]; exact cet_set (hce.later (below_drewN (Below.refl _ _) nq)) _, by simpa using hfr, (hBt.trans (But.of (below_drewN (Below.refl _ _) nq))).setCell (p := ⟨w2.heap.size, 4, none⟩) rfl _⟩
                      clear hce hBt hdc hRW hyp
                      go_upto_region 14 with fail
                      go_quiet (fail)
                      go_wp2
                      obtain ⟨f1, f2, f3⟩ := HCE3.out nq
                      exact ⟨⟨k3 + 1, by omega, by go_num, f1, f2, f3⟩, by simp [intOf]; omega⟩
                    · have hb1 : (y == pk) = false := by simpa using fun e => hkp (hyp.1 e)
                      have HCE3 : Hid (∀ nq : Nat, Cet (wr.drewN nq) w2.heap.size 0 ((ot, ht_, lt_), rt, if p < k3 + 1 then (p : Int) else pk) ∧ (wr.drewN nq).frozen? ⟨w2.heap.size, 4, none⟩ = false ∧ But (· = w2.heap.size) w3 (wr.drewN nq)) := fun nq =>
                        ⟨by
                          have : (if p < k3 + 1 then (p : Int) else pk) = (if p < k3 then (p : Int) else pk) := by
                            by_cases e : p < k3
                            · rw [if_pos e, if_pos (by omega)]
                            · rw [if_neg e, if_neg (by omega)]
                          rw [this]
                          exact hce.later (below_drewN (Below.refl _ _) nq), by simpa using hfr, hBt.trans (But.of (below_drewN (Below.refl _ _) nq))⟩
                      clear hce hBt hdc hRW hyp
                      go_upto_region 14 with fail
                      go_quiet (fail)
                      go_wp2
                      obtain ⟨f1, f2, f3⟩ := HCE3.out nq
                      exact ⟨⟨k3 + 1, by omega, by go_num, f1, f2, f3⟩, by simp [intOf]; omega⟩
                  · obtain rfl : k3 = j := by omega
                    obtain ⟨-, -, a5, c5, w5, hrun, hfin⟩ := HW3.out _ hBt
                    obtain ⟨c0, c1, c2_, c3, c4⟩ := hce
                    simp only [Nat.zero_add] at c0 c1 c2_ c3 c4
                    generalize (if p < k3 then (p : Int) else pk) = qq at *
                    have HRUN := hid hrun
                    have HFIN := hid hfin
                    clear hrun hfin hBt
                    go_wp2_with (first | (at_builtin; refine wpList_append_known rfl _ _ 44 rfl _ _ rfl rfl _ w5 HRUN.out ?_))
                    refine ⟨?_, by simp [intOf]; omega⟩
                    have := HFIN.out
                    simpa using this
              · obtain rfl : j = Gs.length := by omega
                rw [show O.take Gs.length = O by rw [← hOl, List.take_length]] at hO'
                have HOe := hid hO'
                have HBe := hid hB'
                clear hO' hap hC2 hB'
                go_wp2
                exact ⟨⟨i + 1, Gs.length, a', c', by omega, by go_num, rfl, by rw [HE2.out]; exact hOl.symm, by rw [HE2.out]; exact HOe.out, HBe.out⟩, by simp [intOf]; omega⟩
          · have hp0 : 0 ≤ pr := by
              obtain ⟨q, hq⟩ := mem_nums.1 hin
              have he := par_eq HOK.out hq
              rcases HOK.out.up hq with h1 | h1
              · exact absurd (by rw [hpr, he, h1]) hp
              · have := nums_nn HOK.out h1
                omega
            have HPX := hid (HPS.out i (fun hm => absurd (by rw [hpr, par_eq HOK.out hm]) hp))
            have HF : Hid (n = (P (i + 1)).length ∧ Ow wr W.heap.size 47 5 a n c (toks (P (i + 1))) ∧ Below W.heap.size W wr) := by unfold Hid; rw [HPX.out]; exact ⟨hn, hO, hB⟩
            clear hn hO hB hR hin hoo hpr
            go_wp2
            exact ⟨⟨i + 1, n, a, c, by omega, by go_num, rfl, HF.out.1, HF.out.2.1, HF.out.2.2⟩, by simp [intOf]; omega⟩
        · have hb1 : (oo != o) = true := by simp [ho]
          have HPX := hid (HPS.out i (fun _ e => ho (by rw [hoo]; exact e)))
          have HF : Hid (n = (P (i + 1)).length ∧ Ow wr W.heap.size 47 5 a n c (toks (P (i + 1))) ∧ Below W.heap.size W wr) := by unfold Hid; rw [HPX.out]; exact ⟨hn, hO, hB⟩
          clear hn hO hB hR hin hoo hpr
          go_wp2
          exact ⟨⟨i + 1, n, a, c, by omega, by go_num, rfl, HF.out.1, HF.out.2.1, HF.out.2.2⟩, by simp [intOf]; omega⟩
      · rw [plc_out hin] at p0
        simp only [pc0] at p0
        have HPX := hid (HPS.out i (fun hm => absurd (mem_nums.2 ⟨_, hm⟩) hin))
        have HF : Hid (n = (P (i + 1)).length ∧ Ow wr W.heap.size 47 5 a n c (toks (P (i + 1))) ∧ Below W.heap.size W wr) := by unfold Hid; rw [HPX.out]; exact ⟨hn, hO, hB⟩
        clear hn hO hB hR hin p1 p5
        go_wp2
        exact ⟨⟨i + 1, n, a, c, by omega, by go_num, rfl, HF.out.1, HF.out.2.1, HF.out.2.2⟩, by simp [intOf]; omega⟩
    · obtain rfl : i = mo := by omega
      rw [HPE.out] at hO hn
      have HO := hid hO
      have HB := hid hB
      clear hO hB hR
      subst hn
      go_wp2
      go_ret
      exact ⟨a, c, rfl, HO.out, HB.out⟩
end Go.Proofs.YtnjadfgfpebkdaaGreat
