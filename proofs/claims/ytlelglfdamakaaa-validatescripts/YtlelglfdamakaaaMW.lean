import Derived.Test.YtlelglfdamakaaaMB
namespace Go.Proofs.Ytlelglfdamakaaa
open Go.RowKit Go.Shelf
set_option linter.unusedVariables false
attribute [local go_sem] Oper.semAt_some

theorem keeps_but {S : Nat → Prop} {B : Nat} {W W' : World} (h : But S W W') (hS : ∀ k o, W.heap[k]? = some o → o.isCells = false → B ≤ k → ¬ S k) : KeepsFrom B W W' :=
  ⟨h.size, fun k o hB hk ho => (h.block k (Array.getElem?_eq_some_iff.1 hk).1 (hS k o hk ho hB)).trans hk⟩
theorem kq_but {S : Nat → Prop} {Fp : World → Nat → Prop} {W W' : World} (h : But S W W') (hS : ∀ k, S k → Fp W k) (hf : ∀ k, Fp W' k → Fp W k ∨ W.heap.size ≤ k) : Kq Fp W W' :=
  ⟨h.size, fun k o hk _ hn => (h.block k (Array.getElem?_eq_some_iff.1 hk).1 (fun hs => hn (hS k hs))).trans hk, hf⟩

end Go.Proofs.Ytlelglfdamakaaa
namespace Go.Proofs.Ytlelglfdamakaaa
open Go.RowKit Go.Shelf
set_option linter.unusedVariables false
attribute [local go_sem] Oper.semAt_some

/-- The activation in a round: the loop's variable (slot d, by slot p) holds x. -/
abbrev actX (a : Act) (p d : Nat) (x : Int) : Act := { tmps := (a.tmps.setIfInBounds p (.int .i64 x)).setIfInBounds d (.int .i64 x), defers := [] }
end Go.Proofs.Ytlelglfdamakaaa
namespace Go.Proofs.Ytlelglfdamakaaa
open Go.RowKit Go.Shelf
set_option linter.unusedVariables false

theorem but_grown {W W' : World} {row : Option Nat} (h : W.grownBy W' row) : But (fun k => row = some k) W W' := ⟨h.os, h.tape, h.output, h.size, fun k hk hn => h.block k hk (fun e => hn e.symm)⟩
theorem Sq.keep {S : Nat → Prop} {w w' : World} {d : Bool} {base b0 g : Nat} {n : Int} (hb : But S w w') (h : Sq w d base b0 g n) (hS : ∀ k, S k → k < base ∨ w.heap.size ≤ k) : Sq w' d base b0 g n := by
  obtain ⟨b1, b2, h0, h1, h2, h3, h4, h5⟩ := h
  have l0 : b0 < w.heap.size := World.block_lt_of_cell? _ _ h0
  have l1 : b1 < w.heap.size := World.block_lt_of_cell? _ _ h1
  have l2 : b2 < w.heap.size := World.block_lt_of_cell? _ _ h2
  exact ⟨b1, b2, cell_but hb h0 (fun hs => by rcases hS _ hs with h | h <;> simp at h <;> omega), cell_but hb h1 (fun hs => by rcases hS _ hs with h | h <;> simp at h <;> omega), cell_but hb h2 (fun hs => by rcases hS _ hs with h | h <;> simp at h <;> omega), h3, h4, h5⟩
end Go.Proofs.Ytlelglfdamakaaa
namespace Go.Proofs.Ytlelglfdamakaaa
open Go.RowKit Go.Shelf
set_option linter.unusedVariables false
attribute [local go_sem] Oper.semAt_some

/-- What an iterator may hand on: a number of the subtree. -/
abbrev Mem (l : Fo) (n : Int) := { x : Int // x ∈ tells true l n }
def FixRelM (xs : List Int) (J : List { x : Int // x ∈ xs } → World → Prop) (Fp : World → Nat → Prop) (base : Nat) (a : Option Addr) (c : Nat) (t : Value) (wr : World) : Prop :=
  ∃ i : Nat, t = .int .i64 (i : Int) ∧ i ≤ xs.length ∧ J (xs.attach.take i) wr ∧ Own wr base 3 a xs.length c (ints xs) ∧ ∀ k, Blk a k → ¬ Fp wr k
theorem attach_step (xs : List Int) (i : Nat) (h : i < xs.length) : xs.attach.take (i + 1) = xs.attach.take i ++ [⟨xs[i], List.getElem_mem h⟩] := by
  rw [List.take_succ_eq_append_getElem (by simpa using h)]
  simp
set_option maxRecDepth 100000 in
set_option maxHeartbeats 1000000 in
theorem fix_mem {w : World} {g gb m : Nat} {l : Fo} {base b0 : Nat} {n : Int} (hq : Sq w true base b0 g n) (hk : Ki w g gb m l) (Fp : World → Nat → Prop) (hF : ∀ W, Below w.heap.size w W → ∀ k, Fp W k → k < w.heap.size) (N : Nat) :
    SeqStopsK Fence.wide N Try.prog 92 #[.pointer (some ⟨b0, 0, none⟩)] (fun x : Mem l n => #[Value.int .i64 x.1]) (Kq Fp) (fun ys => ys = (tells true l n).attach) (fun pre => pre <+: (tells true l n).attach) (tells true l n).length w := by
  intro L J Jx W hW hJ hJx hY h0
  replace hq := hq.later hW
  replace hk := hk.later hW
  obtain ⟨b1, b2, h1, h2, h3, _, _, _⟩ := hq
  have hT := hid (take_any hk true n b1 b2 h2 h3)
  have htl := Nat.le_trans (tells_len hk.ok true n) hk.big
  have HH := hid (fun (W2 : World) (hb : Below W.heap.size W W2) => (show J [] W2 ∧ ∀ k, Fp W2 k → k < W.heap.size from ⟨hJ [] W W2 none h0 (grown_of_below hb) (fun r e => (by cases e)), fun k hk2 => Nat.lt_of_lt_of_le (hF W2 (hW.trans (hb.mono hW.size)) k hk2) hW.size⟩))
  unfold Mem at *
  generalize tells true l n = xs at *
  clear hk hJ hJx h2 h3 h0
  have HY := hid hY
  clear hY
  refine callsIn_of_wp Try.func92 rfl trivial ?_ rfl
  simp only [Try.ntmps92, List.size_toArray, List.length_cons, List.length_nil, Nat.reduceAdd, Nat.reduceSub, Array.replicate_succ, Array.replicate_zero, List.push_toArray, List.append_toArray, List.nil_append, List.cons_append]
  change W.cell? _ = some (.func (.func 79) _ _) at h1
  change Hid (Calls Try.prog 79 _ _ _) at hT
  gi_wp2_with (refine ⟨trivial, fun h => (by cases h), ?_⟩; gi_at_call 79; refine (callsIn_wide.2 hT.out).mono ?_; rintro e w1 ⟨a, k, c, rfl, hO, hB⟩; have hlk := hO.len; rw [ints_length] at hlk; subst hlk; have HO := hid hO; have HB := hid hB; clear hO hB)
  gi_loopw [8] (FixRelM xs J Fp W.heap.size a c) (fun t _ => xs.length - (intOf t).toNat)
  case atStart => exact ⟨0, rfl, Nat.zero_le _, (HH.out _ HB.out).1, HO.out, fun k hb hf => by have := (HH.out _ HB.out).2 k hf; have := HO.out.blk k hb; omega⟩
  case round =>
    obtain ⟨i, rfl, hi, hJs, hO, hN⟩ := hrel
    by_cases hlt : i < xs.length
    · obtain ⟨ga, rfl⟩ := hO.form (by omega)
      obtain ⟨_, e1, hL1⟩ := hO.lies rfl (ints_get xs i hlt)
      cases e1
      have y1 := hL1.1
      obtain ⟨fn, tmps, assign, body, hy, hR⟩ := HY.out (xs.attach.take i) ⟨xs[i], List.getElem_mem hlt⟩ wr hJs (by rw [List.length_take, List.length_attach]; omega)
      rw [← attach_step xs i hlt] at hR
      have HPF := hid (show xs.attach.take (i + 1) <+: xs.attach from List.take_prefix _ _)
      simp only at hR hy
      generalize xs[i] = x at *
      have HOr := hid hO
      have HNr := hid hN
      clear hO hN hL1
      gi_wp2
      refine ⟨fun h => (by cases h), hR.mono ?_⟩
      rintro e W3 (⟨rfl, hJ3, hk3⟩ | ⟨rfl, hJx3⟩)
      · obtain ⟨hO3, hN3⟩ := HOr.out.kq hk3 HNr.out
        have HO3 := hid hO3
        have HN3 := hid hN3
        clear hO3 hN3 hk3
        gi_wp2
        go_roundw
        case rel => exact ⟨i + 1, by go_num, by omega, hJ3, HO3.out, HN3.out⟩
        case measure => simp [intOf]; omega
      · gi_wp2
        refine bodyPost_ret (results_none rfl _ _ _) rfl ?_
        exact ⟨⟨_, rfl⟩, .inr ⟨_, HPF.out, hJx3⟩⟩
    · obtain rfl : i = xs.length := by omega
      rw [List.take_of_length_le (by simp)] at hJs
      clear hO hN
      gi_wp2
      go_end0
      exact ⟨⟨_, rfl⟩, .inl ⟨_, rfl, hJs⟩⟩
/-- A range over an iterator, that is never left early. -/
theorem range_mem {N : Nat} {gop : Operand} {p : Tmp} {assign body : Code} {Q : Exit → Act → World → Prop} {a : Act} {w : World} {g gb m : Nat} {l : Fo} {base b0 : Nat} {n : Int} (d : Nat)
    (h1 : 1 ≤ N) (hg : a.eval gop = .func (.func 92) #[] #[.pointer (some ⟨b0, 0, none⟩)]) (hq : Sq w true base b0 g n) (hk : Ki w g gb m l) (Fp : World → Nat → Prop) (hF : ∀ W, Below w.heap.size w W → ∀ k, Fp W k → k < w.heap.size)
    (hFc : ∀ (W : World) (L : Nat) (o o' : Obj), w.heap.size ≤ L → W.heap[L]? = some o → o.isCells = false → ∀ k, Fp (W.putObj L o') k → Fp W k)
    (I : List (Mem l n) → World → Prop) (hI : OwnFrom w.heap.size I) (h0 : I [] w)
    (hassign : ∀ (L : Nat) (x : Mem l n) (W : World) (K : Act → World → Prop), K (actX a p d x.1) W →
      assign.wpIn (Fence.wide.inRound L) (N - 1 - 1) Try.prog (Exit.then K (fun _ _ _ => False)) { tmps := a.tmps.setIfInBounds p (.int .i64 x.1), defers := [] } W)
    (hbody : ∀ (L : Nat) (pre : List (Mem l n)) (x : Mem l n) (W : World), I pre W → pre.length < (tells true l n).length → body.wpIn (Fence.wide.inRound L) (N - 1 - 1) Try.prog (ownPostG w.heap.size (Kq Fp) I (fun _ _ _ => False) (pre ++ [x]) W) (actX a p d x.1) W)
    (hdone : ∀ (D : Nat) (W : World), w.heap.size ≤ D → I (tells true l n).attach W → W.heap[D]? = some (.deferred (some [])) → Q .normal { a with defers := { target := .collected D, args := #[] } :: a.defers } W) :
    (Code.rangeFunc gop #[p] assign body).wpIn Fence.wide N Try.prog Q a w :=
  wpIn_rangeFunc_ownG rfl h1 (gf := 92) (lb := #[.pointer (some ⟨b0, 0, none⟩)]) hg trivial (enters_of Try.func92 (by kernel_rfl) rfl) (fix_mem hq hk Fp hF (N - 1)) Kq.trans
    (fun W L o o' hL h ho _ => kq_put hFc W L o o' hL h ho) (Below.refl _ _) (fun _ => rfl) I (fun _ _ _ => False) hI (fun c => ownFrom_pure _ _) h0 (fun x => actX a p d x.1) (fun L x W K hK => by rw [show (#[p].zip #[Value.int .i64 x.1]).foldl (fun t (p, v) => t.setIfInBounds p v) a.tmps = a.tmps.setIfInBounds p (.int .i64 x.1) by simp]; exact hassign L x W K hK) hbody (fun D xs W hD e => by subst e; exact hdone D W hD) (fun D c pre W hD hp hf hK => hf.elim)
end Go.Proofs.Ytlelglfdamakaaa
