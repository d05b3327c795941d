import Derived.Test.YtpajmpfdaihehaaLR
namespace Go.Proofs.Ytpajmpfdaihehaa
open Go.RowKit Go.Shelf
set_option linter.unusedVariables false
attribute [local go_sem] Oper.semAt_some

/-- The activation in a round: the loop's variable (slot d, by slot p) holds x. -/
abbrev actX (a : Act) (p d : Nat) (x : Int) : Act := { tmps := (a.tmps.setIfInBounds p (.int .i64 x)).setIfInBounds d (.int .i64 x), defers := [] }
theorem range_at {N : Nat} {gop : Operand} {p : Tmp} {assign body : Code} {Q : Exit → Act → World → Prop} {a : Act} {w : World} {g gb m : Nat} {l : Fo} {base b0 : Nat} {n : Int} (v : Bool) (d : Nat)
    (h1 : 1 ≤ N) (hg : a.eval gop = .func (.func 51) #[] #[.pointer (some ⟨b0, 0, none⟩)]) (hq : Sq w v base b0 g n) (hk : Ki w g gb m l) (S : Nat → Prop) (hS : ∀ k, S k → k < w.heap.size)
    (I : List Int → World → Prop) (Ix : Code → List Int → World → Prop) (hI : OwnFrom w.heap.size I) (hIx : ∀ c, OwnFrom w.heap.size (Ix c)) (h0 : I [] w)
    (hassign : ∀ (L : Nat) (x : Int) (W : World) (K : Act → World → Prop), K (actX a p d x) W → assign.wpIn (Fence.wide.inRound L) (N - 1 - 1) Try.prog (Exit.then K (fun _ _ _ => False)) { tmps := a.tmps.setIfInBounds p (.int .i64 x), defers := [] } W)
    (hbody : ∀ (L : Nat) (pre : List Int) (x : Int) (W : World), I pre W → pre.length < (tells v l n).length → body.wpIn (Fence.wide.inRound L) (N - 1 - 1) Try.prog (ownPostG w.heap.size (Kq (fun _ => S)) I Ix (pre ++ [x]) W) (actX a p d x) W)
    (hdone : ∀ (D : Nat) (W : World), w.heap.size ≤ D → I (tells v l n) W → W.heap[D]? = some (.deferred (some [])) → Q .normal { a with defers := { target := .collected D, args := #[] } :: a.defers } W)
    (hstop : ∀ (D : Nat) (c : Code) (pre : List Int) (W : World), w.heap.size ≤ D → pre <+: tells v l n → Ix c pre W → W.heap[D]? = some (.deferred (some [])) → c.wpIn Fence.wide N Try.prog Q { a with defers := { target := .collected D, args := #[] } :: a.defers } W) :
    (Code.rangeFunc gop #[p] assign body).wpIn Fence.wide N Try.prog Q a w :=
  range_any v h1 hg hq hk (fun _ => S) (fun _ _ k hk => hS k hk) (fun _ _ _ _ _ _ _ _ h => h) rfl I Ix hI hIx h0 (actX a p d) (fun L x W K hK => by rw [show (#[p].zip #[Value.int .i64 x]).foldl (fun t (p, v) => t.setIfInBounds p v) a.tmps = a.tmps.setIfInBounds p (.int .i64 x) by simp]; exact hassign L x W K hK) hbody hdone hstop
theorem kq_same {S : Nat → Prop} {W W' : World} (h : But S W W') : Kq (fun _ => S) W W' := kq_but h (fun _ h => h) (fun _ h => .inl h)
theorem keeps_below {S : Nat → Prop} {B : Nat} {W W' : World} (h : But S W W') (hS : ∀ k, S k → k < B) : KeepsFrom B W W' := keeps_but h (fun k o _ _ hB hs => by have := hS k hs; omega)
/-- The next of a list that is told in its order. -/
theorem pre_next {xs pre : List Int} {x : Int} (h : pre <+: xs) (hlt : pre.length < xs.length) : (xs[pre.length]? = some x ↔ pre ++ [x] <+: xs) := by
  obtain ⟨t, rfl⟩ := h
  cases t with
  | nil => simp at hlt
  | cons y t =>
    rw [List.getElem?_append_right (Nat.le_refl _), Nat.sub_self, List.getElem?_cons_zero, Option.some.injEq]
    constructor
    · intro e
      subst e
      exact ⟨t, by simp⟩
    · rintro ⟨r, hr⟩
      rw [List.append_assoc] at hr
      have := List.append_cancel_left hr
      simp at this
      exact this.1.symm
set_option maxRecDepth 100000 in
set_option maxHeartbeats 2000000 in
theorem within_any {w : World} {g gb m : Nat} {l : Fo} (h : Ki w g gb m l) (n : Int) {aw au : Option Addr} {cw cu : Nat} (hw : Row w aw (G true l n).length cw (ints (G true l n))) (hu : Row w au (U l n).length cu (ints (U l n))) :
    Calls Try.prog 20 #[.pointer (some ⟨g, 0, none⟩), .int .i64 n, .slice aw (G true l n).length cw, .slice au (U l n).length cu] w fun e w' => e = .returned (.bool true) ∧ Below w.heap.size w w' := by
  have HK := hid h
  have HW := hid hw
  have HU := hid hu
  have hgl := Nat.le_trans (G_len h.ok true n) h.big
  have hul := Nat.le_trans (U_len h.ok n) h.big
  clear h hw hu
  refine (callsIn_wide (n := 3)).1 ?_
  refine callsIn_of_wp_marks Try.func20 rfl trivial ?_ rfl
  simp only [Try.ntmps20, List.size_toArray, List.length_cons, List.length_nil, Nat.reduceAdd, Nat.reduceSub, Array.replicate_succ, Array.replicate_zero, List.push_toArray, List.append_toArray, List.nil_append, List.cons_append]
  have hmk := hid (make_any false g n)
  change Hid (∀ w, Calls Try.prog 19 _ w _) at hmk
  gi_wp2_with (refine ⟨trivial, ?_⟩; gi_at_call 19; refine (callsIn_wide.2 (hmk.out _)).mono ?_; rintro e w1 ⟨b0, rfl, hS, hB⟩; have HS := hid hS; have HB := hid hB; clear hS hB)
  have hsz : w.heap.size + 6 ≤ w1.heap.size := by have := HB.out.size; simp at this; omega
  have hB0 : Below w.heap.size w w1 := ((((((below1 _ _).alloc (by simp) _).alloc (by simp; omega) _).alloc (by simp; omega) _).alloc (by simp; omega) _).alloc (by simp; omega) _).trans (HB.out.mono (by simp; omega))
  have c4 : Lies w1 ⟨w.heap.size, 0, none⟩ (.pointer (some ⟨g, 0, none⟩)) := Lies.later HB.out ⟨by simp [go_sem], by simp [go_sem]⟩
  have c5 : Lies w1 ⟨w.heap.size + 1, 0, none⟩ (.int .i64 n) := Lies.later HB.out ⟨by simp [go_sem], by simp [go_sem]⟩
  have c6 : Lies w1 ⟨w.heap.size + 1 + 1, 0, none⟩ (.slice aw (G true l n).length cw) := Lies.later HB.out ⟨by simp [go_sem], by simp [go_sem]⟩
  have c7 : Lies w1 ⟨w.heap.size + 1 + 1 + 1, 0, none⟩ (.slice au (U l n).length cu) := Lies.later HB.out ⟨by simp [go_sem], by simp [go_sem]⟩
  have c8 : Lies w1 ⟨w.heap.size + 1 + 1 + 1 + 1, 0, none⟩ (.bool false) := Lies.later HB.out ⟨by simp [go_sem], by simp [go_sem]⟩
  have c9 : Lies w1 ⟨w.heap.size + 1 + 1 + 1 + 1 + 1, 0, none⟩ (.int .i64 0) := Lies.later HB.out ⟨by simp [go_sem], by simp [go_sem]⟩
  have HS1 := hid HS.out
  generalize hs : w.heap.size = s at c4 c5 c6 c7 c8 c9 hsz ⊢
  generalize hB9 : s + 1 + 1 + 1 + 1 + 1 = B9 at c9 ⊢
  generalize hB8 : s + 1 + 1 + 1 + 1 = B8 at c8 ⊢
  generalize hB7 : s + 1 + 1 + 1 = B7 at c7 ⊢
  generalize hB6 : s + 1 + 1 = B6 at c6 ⊢
  generalize hB5 : s + 1 = B5 at c5 ⊢
  have HBs := hid (show s = w.heap.size ∧ B5 = s + 1 ∧ B6 = s + 2 ∧ B7 = s + 3 ∧ B8 = s + 4 ∧ B9 = s + 5 ∧ s + 6 ≤ w1.heap.size from ⟨by omega, by omega, by omega, by omega, by omega, by omega, by omega⟩)
  clear hB9 hB8 hB7 hB6 hB5 hs hsz
  have hK1 := HK.out.later hB0
  refine range_at false 10 (by omega) rfl HS1.out hK1 (· = B9) (fun k hk => by have := HBs.out; omega)
    (fun pre W => (((((((pre <+: U l n) ∧ Lies W ⟨s, 0, none⟩ (.pointer (some ⟨g, 0, none⟩))) ∧ Lies W ⟨B5, 0, none⟩ (.int .i64 n)) ∧ Lies W ⟨B6, 0, none⟩ (.slice aw (G true l n).length cw)) ∧ Lies W ⟨B7, 0, none⟩ (.slice au (U l n).length cu)) ∧ Lies W ⟨B8, 0, none⟩ (.bool false)) ∧ Lies W ⟨B9, 0, none⟩ (.int .i64 (pre.length : Int))) ∧ Below w.heap.size w W)
    (fun c pre W => c = .ret ∧ ¬ (pre <+: U l n))
    (OwnFrom.and (OwnFrom.and (OwnFrom.and (OwnFrom.and (OwnFrom.and (OwnFrom.and (OwnFrom.and (ownFrom_pure _ _) (lies_from _ _ _)) (lies_from _ _ _)) (lies_from _ _ _)) (lies_from _ _ _)) (lies_from _ _ _)) (lies_from _ _ _)) (ownFrom_below (Nat.le_refl _) hB0.size))
    (fun c => ownFrom_pure _ _)
    ⟨⟨⟨⟨⟨⟨⟨List.nil_prefix, c4⟩, c5⟩, c6⟩, c7⟩, c8⟩, c9⟩, hB0⟩ ?assign ?body ?done ?stop
  case assign =>
    intro L x W K hK
    gi_wp2
    exact hK
  case body =>
    rintro L pre x W ⟨⟨⟨⟨⟨⟨⟨hp, d4⟩, d5⟩, d6⟩, d7⟩, d8⟩, d9⟩, hB⟩ hlt
    change pre.length < (U l n).length at hlt
    obtain ⟨bu, ou, rfl, hc⟩ := (HU.out.later hB).plain (by omega)
    have y10 := hc pre.length _ (ints_get (U l n) pre.length hlt)
    have HPN := hid (fun x => pre_next (x := x) hp hlt)
    rw [List.getElem?_eq_getElem hlt] at HPN
    generalize (U l n)[pre.length] = u at y10 HPN
    have y4 := d4.1
    have y5 := d5.1
    have y6 := d6.1
    have y7 := d7.1
    have y8 := d8.1
    have z8 := d8.2
    have y9 := d9.1
    have hni : ¬ ((U l n).length : Int) ≤ (pre.length : Int) := by omega
    simp only [actX, List.setIfInBounds_toArray, List.set]
    by_cases hx : x = u
    · subst hx
      have hne : (x != x) = false := by simp
      have HD := hid (downs_G (HK.out.later hB) n)
      have HWR := hid (fun W2 (hb : Below W.heap.size W W2) => HW.out.later (below_call hB hb))
      have HY := hid (fun W2 (hb : Below W.heap.size W W2) => (show W2.cell? ⟨B6, 0, none⟩ = some (.slice aw (G true l n).length cw) ∧ Lies W2 ⟨B9, 0, none⟩ (.int .i64 (pre.length : Int)) from ⟨cell_later hb y6, d9.later hb⟩))
      have HE := hid (fun w3 (hb : Below W.heap.size W w3) => (show KeepsFrom w1.heap.size W (w3.setCell ⟨B9, 0, none⟩ (.int .i64 ((pre.length : Int) + 1))) ∧ Kq (fun _ k => k = B9) W (w3.setCell ⟨B9, 0, none⟩ (.int .i64 ((pre.length : Int) + 1))) ∧ (((((((pre ++ [x] <+: U l n) ∧ Lies (w3.setCell ⟨B9, 0, none⟩ (.int .i64 ((pre.length : Int) + 1))) ⟨s, 0, none⟩ (.pointer (some ⟨g, 0, none⟩))) ∧ Lies (w3.setCell ⟨B9, 0, none⟩ (.int .i64 ((pre.length : Int) + 1))) ⟨B5, 0, none⟩ (.int .i64 n)) ∧ Lies (w3.setCell ⟨B9, 0, none⟩ (.int .i64 ((pre.length : Int) + 1))) ⟨B6, 0, none⟩ (.slice aw (G true l n).length cw)) ∧ Lies (w3.setCell ⟨B9, 0, none⟩ (.int .i64 ((pre.length : Int) + 1))) ⟨B7, 0, none⟩ (.slice (some ⟨bu, ou, none⟩) (U l n).length cu)) ∧ Lies (w3.setCell ⟨B9, 0, none⟩ (.int .i64 ((pre.length : Int) + 1))) ⟨B8, 0, none⟩ (.bool false)) ∧ Lies (w3.setCell ⟨B9, 0, none⟩ (.int .i64 ((pre.length : Int) + 1))) ⟨B9, 0, none⟩ (.int .i64 ((pre ++ [x]).length : Int))) ∧ Below w.heap.size w (w3.setCell ⟨B9, 0, none⟩ (.int .i64 ((pre.length : Int) + 1))) from by
        have hbs := HBs.out
        have hbt : But (· = B9) W (w3.setCell ⟨B9, 0, none⟩ (.int .i64 ((pre.length : Int) + 1))) := (But.of (S := (· = B9)) hb).setCell (p := ⟨B9, 0, none⟩) (show B9 = B9 from rfl) _
        refine ⟨keeps_below hbt (fun k hk => by omega), kq_same hbt, ⟨⟨⟨⟨⟨⟨(HPN.out x).1 rfl, ?_⟩, ?_⟩, ?_⟩, ?_⟩, ?_⟩, ?_⟩, But.below hB hbt (fun k hk => by omega)⟩
        · exact d4.but hbt (by show ¬ s = B9; omega)
        · exact d5.but hbt (by show ¬ B5 = B9; omega)
        · exact d6.but hbt (by show ¬ B6 = B9; omega)
        · exact d7.but hbt (by show ¬ B7 = B9; omega)
        · exact d8.but hbt (by show ¬ B8 = B9; omega)
        · have := (d9.later hb).put (u := .int .i64 ((pre.length : Int) + 1))
          simpa using this))
      clear hc hp d4 d5 d6 d7 d8 d9 hB c4 c5 c6 c7 c8 c9 HS HB HS1 hK1 hB0 HPN hmk HK HU HW
      gi_wp2_with (first | (refine ⟨trivial, ?_⟩; gi_at_call 9; refine (CallsIn.inRound L (callsIn_wide.2 HD.out)).mono ?_; rintro e w2 ⟨a2, c2, rfl, hR2, _, hb2⟩; have HR2 := hid hR2; have HB2 := hid hb2; have y62 := (HY.out _ hb2).1; have N1 := hid (numbers_true hR2 (HWR.out _ hb2) (by omega)); clear hR2 hb2) | (refine ⟨trivial, ?_⟩; gi_at_call 25; refine (CallsIn.inRound L (callsIn_wide.2 N1.out)).mono ?_; rintro e w3 ⟨rfl, hb3⟩; have HB3 := hid (below_call HB2.out hb3); have y93 := (HY.out _ HB3.out).2.1; have z93 := (HY.out _ HB3.out).2.2; clear hb3))
      exact HE.out _ HB3.out
    · have hne : (x != u) = true := by simp [hx]
      have hbs := HBs.out
      have HE := hid (show KeepsFrom w1.heap.size W (W.setCell ⟨B8, 0, none⟩ (.bool false)) ∧ ((Code.ret = .ret) ∧ ¬ (pre ++ [x] <+: U l n)) from ⟨(KeepsOthers.setCell _ _ _).from _, rfl, fun hh => hx (by have := (HPN.out x).2 hh; simpa using this.symm)⟩)
      clear hc hp d4 d5 d6 d7 d8 d9 hB c4 c5 c6 c7 c8 c9 HS HB HS1 hK1 hB0 HPN hmk HK HU HW hbs
      gi_wp2
      exact ⟨HE.out.1, rfl, HE.out.2.2⟩
  case done =>
    rintro D W hD ⟨⟨⟨⟨⟨⟨⟨hp, d4⟩, d5⟩, d6⟩, d7⟩, d8⟩, d9⟩, hB⟩ hK
    change Lies W ⟨B9, 0, none⟩ (.int .i64 ((U l n).length : Int)) at d9
    have y7 := d7.1
    have y8 := d8.1
    have z8 := d8.2
    have y9 := d9.1
    have hbs := HBs.out
    have hK' := (KeepsOthers.setCell W ⟨B8, 0, none⟩ (.bool true)).same D _ hK rfl
    have hc5 := ((d8.put (u := .bool true)).deferred hK').1
    have HBE := hid (below_deferred (hB.setCell (p := ⟨B8, 0, none⟩) (by show w.heap.size ≤ B8; omega) (.bool true)) (by omega) hK')
    clear d4 d5 d6 d7 d8 d9 hB hbs
    gi_wp2
    refine ⟨by simp, .inl ⟨_, _, rfl, run_takeDeferred hK', ?_⟩⟩
    refine ⟨.bool true, ?_, rfl, HBE.out⟩
    simp [results, Try.f20, go_sem, hc5]
  case stop =>
    rintro D c pre W hD hpre ⟨rfl, hin⟩ hK
    exact absurd hpre hin
end Go.Proofs.Ytpajmpfdaihehaa
