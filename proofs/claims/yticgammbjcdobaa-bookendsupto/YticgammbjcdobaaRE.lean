import Derived.Test.YticgammbjcdobaaRD
import Derived.Test.YticgammbjcdobaaQF
namespace Go.Proofs.Yticgammbjcdobaa
open Go.RowKit Go.Shelf
set_option linter.unusedVariables false
set_option linter.unusedSimpArgs false
attribute [local go_sem] Oper.semAt_some
/-! A range over an iterator whose variable is boxed anew each round, and whose body goes on. -/
def bpo {α : Type} (I : List α → World → Prop) (xs : List α) (W : World) : Exit → Act → World → Prop
  | .normal, _, W' => KeepsOthers W W' ∧ I xs W'
  | _, _, _ => False
theorem rf_box {α : Type} {N M : Nat} {gop : Operand} {ps : Array Tmp} {assign body : Code} {Q : Exit → Act → World → Prop} {a : Act} {w : World} (h1 : 1 ≤ N) {gf : Nat} {lb : Array Value} (hg : a.eval gop = .func (.func gf) #[] lb)
    (eg : ∀ args w, (callFunc gf args).run Try.prog w = .ok (.enter gf args) w) {enc : α → Value} {S : List α → Prop} (hseq : SeqGives Fence.wide (N - 1) Try.prog gf lb enc S M w) (hps : ps.size = 1) (bx : α → Obj)
    (I : List α → World → Prop) (hI : OwnFrom w.heap.size I) (h0 : I [] w) (a₁ : α → Nat → Act)
    (hassign : ∀ (l : Nat) (x : α) (W : World) (K : Act → World → Prop), K (a₁ x W.heap.size) (W.alloc (bx x)) →
      assign.wpIn (Fence.wide.inRound l) (N - 1 - 1) Try.prog (Exit.then K (fun _ _ _ => False)) { tmps := (ps.zip #[enc x]).foldl (fun t (p, v) => t.setIfInBounds p v) a.tmps, defers := [] } W)
    (hbody : ∀ (l : Nat) (pre : List α) (x : α) (W : World) (p : Nat), I pre W → W.heap[p]? = some (bx x) → pre.length < M → body.wpIn (Fence.wide.inRound l) (N - 1 - 1) Try.prog (bpo I (pre ++ [x]) W) (a₁ x p) W)
    (hdone : ∀ (D : Nat) (xs : List α) (W : World), w.heap.size ≤ D → S xs → I xs W → W.heap[D]? = some (.deferred (some [])) → Q .normal { a with defers := { target := .collected D, args := #[] } :: a.defers } W) :
    (Code.rangeFunc gop ps assign body).wpIn Fence.wide N Try.prog Q a w := by
  refine wpIn_rangeFunc fun fn hfn => ?_
  obtain ⟨rc, hrc⟩ : ∃ rc : LoopState → Loop, rc = fun st => { state := st, pending := none, fn, tmps := a.tmps, params := ps, assign, body, defers := w.heap.size } := ⟨_, rfl⟩
  obtain ⟨W1, hW1⟩ : ∃ W1, W1 = (w.alloc (.deferred (some []))).alloc (.loop (rc .ready)) := ⟨_, rfl⟩
  have hb1 : Below w.heap.size w W1 := by rw [hW1]; exact below2 _ _ _
  have hsz : W1.heap.size = w.heap.size + 2 := by rw [hW1]; simp
  have hL1 : W1.heap[w.heap.size + 1]? = some (.loop (rc .ready)) := by
    rw [hW1]
    have := World.alloc_heap_new (w.alloc (.deferred (some []))) (.loop (rc .ready))
    rwa [World.size_alloc] at this
  have hK1 : W1.heap[w.heap.size]? = some (.deferred (some [])) := by
    rw [hW1]
    exact (Below.heap_alloc _ _ _ (by simp)).trans (World.alloc_heap_new w _)
  have hI1 : I [] W1 := by rw [hW1]; exact hI.alloc _ (hI.alloc _ h0)
  refine ⟨w.heap.size + 1, [{ target := .collected w.heap.size, args := #[] }], W1, { target := .fn (.func gf) lb, args := #[.func (.yield (w.heap.size + 1)) #[] #[]] }, W1, gf, #[.func (.yield (w.heap.size + 1)) #[] #[]] ++ lb, W1, ?_, ?_, ?_, ?_, fun _ => h1, ?_⟩
  · rw [hW1, hrc]; exact run_enterLoop_outer _ _ _ _ _
  · simp only [resolve, hg]; simp [go_sem]
  · intro f' hf'; trivial
  · simp [invoke, go_sem, eg]
  · refine (hseq (w.heap.size + 1) (fun pre W => I pre W ∧ W.heap[w.heap.size + 1]? = some (.loop (rc .ready)) ∧ W.heap[w.heap.size]? = some (.deferred (some []))) W1 hb1
      (fun s A B row hs hgr hr => ⟨hI s A B row hs.1 hgr (fun r e => ?_), (grownBy_keeps hgr (fun r e => (hr r e).2) hs.2.1 rfl).trans hs.2.1, (grownBy_keeps hgr (fun r e => (hr r e).2) hs.2.2 rfl).trans hs.2.2⟩)
      ?_ ⟨hI1, hL1, hK1⟩).mono ?_
    · obtain ⟨h2, o, h3, h4⟩ := hr r e
      exact ⟨by omega, o, h3, Obj.not_cells_of_walk h4⟩
    · rintro pre x W ⟨hi, hl, hk⟩ hlen
      have hlt : w.heap.size + 1 < W.heap.size := (Array.getElem?_eq_some_iff.1 hl).1
      have hy := run_yield (P := Try.prog) (args := #[enc x]) hl (by rw [hrc]; simp [hps])
      rw [hrc] at hy
      have hl' : (W.alloc (bx x)).heap[w.heap.size + 1]? = some (.loop (rc .ready)) := (Below.heap_alloc _ _ _ hlt).trans hl
      have hk' : (W.alloc (bx x)).heap[w.heap.size]? = some (.deferred (some [])) := (Below.heap_alloc _ _ _ (by omega)).trans hk
      refine ⟨fn, _, assign, body, hy, roundIn_of_wpIn hfn (hassign _ x W _ ⟨_, run_beginRound hl' (by rw [hrc]), ?_⟩)⟩
      have hl2 : ((W.alloc (bx x)).putObj (w.heap.size + 1) (.loop { rc .ready with state := .busy })).heap[w.heap.size + 1]? = some (.loop { rc .ready with state := .busy }) := World.putObj_heap_same (by simp; omega)
      have hk2 : ((W.alloc (bx x)).putObj (w.heap.size + 1) (.loop { rc .ready with state := .busy })).heap[w.heap.size]? = some (.deferred (some [])) := (World.putObj_heap_other (by omega)).trans hk'
      refine wpIn_mono (hbody _ pre x _ W.heap.size (hI.putObj _ (hI.alloc _ hi) (by omega) hl' rfl) ((World.putObj_heap_other (by omega)).trans (World.alloc_heap_new W _)) hlen) ?_
      rintro e a3 W3 hp
      cases e with
      | normal =>
        obtain ⟨hk3, hi3⟩ := hp
        have hl3 := hk3.same _ _ hl2 rfl
        have hr := run_endRound (P := Try.prog) none hl3
        refine ⟨_, _, hr, rfl, ⟨hI.putObj _ hi3 (by omega) hl3 rfl, ?_, ?_⟩, ((KeepsWalks.alloc W _).trans (KeepsWalks.putObj _ hl' rfl)).trans (hk3.walks.trans (KeepsWalks.putObj _ hl3 rfl))⟩
        · rw [World.putObj_heap_same (Array.getElem?_eq_some_iff.1 hl3).1, hrc]
          rfl
        · exact (World.putObj_heap_other (by omega)).trans (hk3.same _ _ hk2 rfl)
      | _ => exact hp.elim
    · rintro e W2 ⟨⟨v, rfl⟩, xs, hS, hi, hl, hk⟩
      have he := run_endLoop (P := Try.prog) hl (by rw [hrc]; simp)
      refine ⟨_, _, he, ?_⟩
      rw [show (rc .ready).pending = none by rw [hrc]]
      exact hdone _ xs _ (Nat.le_refl _) hS (hI.putObj _ hi (by omega) hl rfl) ((World.putObj_heap_other (by omega)).trans hk)
open Go.RowKit Go.Shelf
set_option linter.unusedVariables false
set_option linter.unusedSimpArgs false
attribute [local go_sem] Oper.semAt_some
abbrev zTn : Value := .agg #[.int .u64 0, .int .u64 0, .int .u64 0, .int .u64 0, .int .i64 0, .int .i64 0]
theorem infoT6 : (Try.prog.info? 77).map (fun i => (i.zero, i.size, i.bytes)) = some (some zTn, 6, 48) := by kernel_rfl
theorem oneT (t : Tn) : ∀ u ∈ t.L, u.oneCell' = true := by
  intro u hu
  simp [Tn.L] at hu
  rcases hu with rfl | rfl | rfl | rfl | rfl | rfl <;> rfl
def flatT (ts : List Tn) : List Value := ts.flatMap Tn.L
theorem flatT_snoc (ts : List Tn) (t : Tn) : flatT (ts ++ [t]) = flatT ts ++ t.L := by simp [flatT]
theorem Ow.isc {w : World} {base : Nat} {e : TypeId} {k : Nat} {a : Option Addr} {n cap : Nat} {L : List Value} (h : Ow w base e k a n cap L) {j : Nat} (hj : Blk a j) : ∃ cs t z, w.heap[j]? = some (.cells cs t z) := by
  rcases h.2 with ⟨h1, _⟩ | ⟨g, c, cur, hv, hg, hh, r⟩
  · simp only [Value.slice.injEq] at h1
    obtain ⟨x, hx, _⟩ := hj
    rw [h1.1] at hx
    cases hx
  · simp only [Value.slice.injEq] at hv
    obtain ⟨x, hx, rfl⟩ := hj
    rw [hv.1] at hx
    cases hx
    exact ⟨_, _, _, hh⟩
theorem wpListIn_append_known {F : Fence} {n : Nat} {P : Program} {w : World} {ops : Array Oper} {rest : List Oper} {o : Oper} {a : Act} {Q : Exit → Act → World → Prop} (hgd : o.guard = none) (s x : Operand) (t : TypeId)
    (ho : o.op = .call { callee := .builtin .append, args := #[s, x], argTypes := #[t, t] }) (vs vx : Value) (hs : a.eval s = vs) (hx : a.eval x = vx) (v' : Value) (w' : World)
    (hr : (Builtin.append_ #[t, t] o.type #[vs, vx]).run P w = .ok v' w') (h : wpListIn F n P ops Q rest (a.put o.dst v') w') : wpListIn F n P ops Q (o :: rest) a w := by
  refine wpListIn_plain hgd fun K hK => ?_
  unfold Oper.wpIn
  refine ⟨by simp [Oper.about, ho, resolve, Target.leads, Sem.run_pure], ?_⟩
  rw [Oper.semAt_plain F _ _ (by rw [ho]; intro c hc; cases hc)]
  simp [execOp, ho, resolve, invoke, builtin, hs, hx, hr, Result.andThen]
  exact hK _ _ h
/-- The list that a variable holds. -/
def Bag (base B : Nat) (w : World) (ts : List Tn) (W : World) : Prop := (∃ a c, Lies W ⟨B, 0, none⟩ (.slice a ts.length c) ∧ Ow W (B + 1) 77 6 a ts.length c (flatT ts)) ∧ Below base w W
theorem bag_from {base B : Nat} {w : World} (C : Nat) (hC : base ≤ C) (hb : base ≤ w.heap.size) : OwnFrom C (fun ts W => Bag base B w ts W) := by
  rintro ts W W' row ⟨⟨a, c, hl, hO⟩, hB⟩ hg hr
  have hbt : But (fun k => row = some k) W W' := ⟨hg.os, hg.tape, hg.output, hg.size, fun k hk hn => hg.block k hk (fun e => hn e.symm)⟩
  refine ⟨⟨a, c, ⟨cell_kept hl.1 hg (fun r e => (hr r e).2), (frozen_kept hl.1 hg (fun r e => (hr r e).2)).trans hl.2⟩, hO.but hbt (fun j hj e => ?_)⟩, hB.grown hg (Nat.le_trans hb hB.size) (fun k e => Nat.le_trans hC (hr k e).1)⟩
  obtain ⟨_, o, ho, hc⟩ := hr j e
  obtain ⟨cs, t, z, hh⟩ := hO.isc hj
  rw [ho] at hh
  cases hh
  cases hc
open Go.RowKit Go.Shelf
set_option linter.unusedVariables false
set_option linter.unusedSimpArgs false
attribute [local go_sem] Oper.semAt_some
theorem flatT_len (ts : List Tn) : (flatT ts).length = ts.length * 6 := by
  induction ts with
  | nil => rfl
  | cons t r ih =>
    have e : flatT (t :: r) = t.L ++ flatT r := by simp [flatT]
    rw [e, List.length_append, ih]
    simp [Tn.L]
    omega
set_option maxRecDepth 100000 in
set_option maxHeartbeats 4000000 in
theorem appendSeq_in {n gf M : Nat} {lb : Array Value} (hn : 3 ≤ n) (eg : ∀ args w, (callFunc gf args).run Try.prog w = .ok (.enter gf args) w) {S : List Tn → Prop} (hM : M ≤ 100000000) {w : World} (hseq : SeqGives Fence.wide (n - 1) Try.prog gf lb (fun t : Tn => Tn.v t) S M w) (hSM : ∀ ts, S ts → ts.length ≤ M) :
    CallsIn Fence.wide n Try.prog 53 #[.slice none 0 0, .func (.func gf) #[] lb] w fun e w' => ∃ a c ts, e = .returned (.slice a ts.length c) ∧ S ts ∧ Ow w' w.heap.size 77 6 a ts.length c (flatT ts) ∧ Below w.heap.size w w' := by
  refine callsIn_of_wp_marks Try.func53 rfl trivial ?_ rfl
  simp only [Try.ntmps53, List.size_toArray, List.length_cons, List.length_nil, Nat.reduceAdd, Nat.reduceSub, Array.replicate_succ, Array.replicate_zero, List.push_toArray, List.append_toArray, List.nil_append, List.cons_append]
  gi_wp2
  have hB1 := below1 w (Obj.cells #[.slice none 0 0] 83)
  refine rf_box (by omega) rfl eg (hseq.later hB1) rfl (fun t => .cells t.L.toArray 77) (fun ts W => Bag w.heap.size w.heap.size w ts W)
    (bag_from _ (by simp) (Nat.le_refl _)) ⟨⟨none, 0, ⟨by simp [go_sem], by simp [go_sem]⟩, Ow.nil _ _ _ _⟩, hB1⟩
    (fun x p => { tmps := #[.slice none 0 0, .func (.func gf) #[] lb, .pointer (some ⟨w.heap.size, 0, none⟩), undef, .slice none 0 0, .pointer (some ⟨p, 0, none⟩), .func (.func gf) #[] lb, x.v, undef, undef, undef, undef, undef], defers := [] }) ?assign ?body ?done
  case assign =>
    intro L x W K hK
    gi_wp2
    exact hK
  case body =>
    rintro L pre x W p ⟨⟨a, c, hl, hO⟩, hB⟩ hbx hlen
    have hsz := hB.size
    have hBs := World.block_lt_of_cell? _ _ hl.1
    obtain ⟨a', c', w3, hrun, hO3, hbt, hgr⟩ := ow_snoc9 83 77 _ 6 48 Try.underlying83 infoT6 rfl (by omega) (cs := x.L) hO rfl (oneT x) (by simp at hBs; omega) (by omega) (by omega)
    have hl3 := hl.but hbt (fun hj => by have := hO.blk _ hj; simp at this; omega)
    have y1 := hl.1
    have y2 := hl3.1
    have y3 := hl3.2
    have x0 : W.cell? ⟨p, 0, none⟩ = some (.int .u64 (x.h : Int)) := by simp [World.cell?, hbx]
    have x1 : W.cell? ⟨p, 1, none⟩ = some (.int .u64 (x.l : Int)) := by simp [World.cell?, hbx]
    have x2 : W.cell? ⟨p, 2, none⟩ = some (.int .u64 (x.ph : Int)) := by simp [World.cell?, hbx]
    have x3 : W.cell? ⟨p, 3, none⟩ = some (.int .u64 (x.pl : Int)) := by simp [World.cell?, hbx]
    have x4 : W.cell? ⟨p, 4, none⟩ = some (.int .i64 x.r) := by simp [World.cell?, hbx]
    have x5 : W.cell? ⟨p, 5, none⟩ = some (.int .i64 x.s) := by simp [World.cell?, hbx]
    have H4 : Hid (∀ w4, w4 = w3.setCell ⟨w.heap.size, 0, none⟩ (.slice a' (pre.length + 1) c') → KeepsOthers W w4 ∧ Bag w.heap.size w.heap.size w (pre ++ [x]) w4) := hid (by
      rintro w4 rfl
      have hl4 := hl3.put (u := .slice a' (pre.length + 1) c')
      have hO4 := hO3.but (S := (· = w.heap.size)) ((But.refl (· = w.heap.size) _).setCell (p := ⟨w.heap.size, 0, none⟩) rfl (.slice a' (pre.length + 1) c')) (fun k hk e => by have := hO3.blk k hk; omega)
      refine ⟨⟨Nat.le_trans hbt.size (by rw [show (w3.setCell ⟨w.heap.size, 0, none⟩ (.slice a' (pre.length + 1) c')).heap.size = w3.heap.size by simp [World.setCell]]; exact Nat.le_refl _), fun k o hk ho => ?_⟩, ⟨a', c', by simpa using hl4, by rw [flatT_snoc]; simpa using hO4⟩, ?_⟩
      · have h5 : ¬ Blk a k := fun hj => by
          obtain ⟨cs, t, z, hh⟩ := hO.isc hj
          rw [hk] at hh
          cases hh
          cases ho
        have h6 : w3.heap[k]? = some o := (hbt.block k (Array.getElem?_eq_some_iff.1 hk).1 h5).trans hk
        exact (KeepsOthers.setCell w3 _ _).same k o h6 ho
      · exact (But.below hB hbt (fun k hk => by have := hO.blk k hk; omega)).setCell (p := ⟨w.heap.size, 0, none⟩) (Nat.le_refl _) _)
    have HRUN := hid hrun
    clear hrun hO hO3 hbt hgr hl hl3 hB hbx
    gi_wp2_with (gi_at_builtin; refine wpListIn_append_known rfl _ _ 83 rfl _ _ rfl rfl _ w3 HRUN.out ?_)
    exact H4.out _ rfl
  case done =>
    rintro D ts W hD hS ⟨⟨a, c, hl, hO⟩, hB⟩ hK
    have y1 := hl.1
    have HO := hid hO
    have HB := hid hB
    clear hO hB hl
    gi_wp2
    refine ⟨by simp, .inl ⟨_, _, rfl, run_takeDeferred hK, ?_⟩⟩
    refine ⟨_, results_tmp rfl _ _ _, a, c, ts, rfl, hS, ?_, ?_⟩
    · have hbt : But (· = D) W (W.putObj D (.deferred none)) := ⟨rfl, rfl, rfl, by simp, fun k hk hn => World.putObj_heap_other hn⟩
      refine (HO.out.but hbt (fun j hj e => ?_)).mono (by omega)
      subst e
      obtain ⟨cs, t, z, hh⟩ := HO.out.isc hj
      rw [hK] at hh
      cases hh
    · exact HB.out.grown (grownBy_putObj' _ D _) HB.out.size (fun k e => by cases e; simp at hD; omega)
end Go.Proofs.Yticgammbjcdobaa
