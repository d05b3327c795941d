import Derived.Test.YtgdhdfmgfncdkaaB3
import Derived.RangeFuncNested
import Derived.RangeFuncBound
import Derived.RangeFuncCalls
import Derived.RangeFuncLeaves
import Derived.Shelf.Abstract
import Derived.Shelf.RegionOpen
import Derived.OwnWalkIn
import Derived.TacticsInMore
import Derived.LoopNIn
import Derived.LoopIn
namespace Go.Proofs.Ytgdhdfmgfncdkaa
open Go.RowKit Go.Shelf
set_option linter.unusedVariables false
attribute [local go_sem] Oper.semAt_some

/-- What a round keeps: all cells but for the blocks that the body may write (Fp). -/
structure Kq (Fp : World → Nat → Prop) (W W' : World) : Prop where
  size : W.heap.size ≤ W'.heap.size
  same : ∀ k o, W.heap[k]? = some o → o.isCells = true → ¬ Fp W k → W'.heap[k]? = some o
  fp : ∀ k, Fp W' k → Fp W k ∨ W.heap.size ≤ k
theorem Kq.trans {Fp : World → Nat → Prop} {A B C : World} (h : Kq Fp A B) (k : Kq Fp B C) : Kq Fp A C := by
  refine ⟨Nat.le_trans h.size k.size, fun i o hi ho hn => k.same i o (h.same i o hi ho hn) ho (fun hf => ?_), fun i hi => ?_⟩
  · have hlt : i < A.heap.size := (Array.getElem?_eq_some_iff.1 hi).1
    rcases h.fp i hf with h1 | h1
    · exact hn h1
    · omega
  · rcases k.fp i hi with h1 | h1
    · exact h.fp i h1
    · exact .inr (Nat.le_trans h.size h1)
theorem Own.kq {Fp : World → Nat → Prop} {W W' : World} {base : Nat} {e : TypeId} {a : Option Addr} {n cap : Nat} {L : List Value} (h : Own W base e a n cap L) (hk : Kq Fp W W') (hn : ∀ k, Blk a k → ¬ Fp W k) : Own W' base e a n cap L ∧ ∀ k, Blk a k → ¬ Fp W' k := by
  refine ⟨⟨⟨h.row.1, ?_⟩, h.one⟩, fun k hb hf => ?_⟩
  · rcases h.row.2 with h1 | ⟨g, c, cur, hv, hg, hh, r⟩
    · exact .inl h1
    · refine .inr ⟨g, c, cur, hv, hg, hk.same g _ hh rfl (hn g ?_), r⟩
      rw [← Blk.of (n := n) (cap := cap), hv]
      simp [Value.ownBlock]
  · rcases hk.fp k hf with h1 | h1
    · exact hn k hb h1
    · have := h.lt k hb
      omega
theorem grown_of_below {W W' : World} (h : Below W.heap.size W W') : W.grownBy W' none := ⟨h.os, h.tape, h.output, h.size, fun k hk _ => h.block k hk⟩
def FixRel (xs : List Int) (J : List Int → World → Prop) (Fp : World → Nat → Prop) (base : Nat) (a : Option Addr) (c : Nat) (t : Value) (wr : World) : Prop :=
  ∃ i : Nat, t = .int .i64 (i : Int) ∧ i ≤ xs.length ∧ J (xs.take i) wr ∧ Own wr base 3 a xs.length c (ints xs) ∧ ∀ k, Blk a k → ¬ Fp wr k
set_option maxRecDepth 100000 in
set_option maxHeartbeats 1000000 in
theorem fix_in {w : World} {g gb m : Nat} {l : Fo} {base b0 : Nat} {n : Int} (d : Bool) (hq : Sq w d base b0 g n) (hk : Ki w g gb m l) (Fp : World → Nat → Prop) (hF : ∀ W, Below w.heap.size w W → ∀ k, Fp W k → k < w.heap.size) (N : Nat) :
    SeqStopsK Fence.wide N Try.prog 77 #[.pointer (some ⟨b0, 0, none⟩)] (fun x : Int => #[Value.int .i64 x]) (Kq Fp) (fun ys => ys = tells d l n) (fun pre => pre <+: tells d l n) (tells d l n).length w := by
  intro L J Jx W hW hJ hJx hY h0
  replace hq := hq.later hW
  replace hk := hk.later hW
  obtain ⟨b1, b2, h1, h2, h3, _, _, _⟩ := hq
  have hT := hid (take_any hk d n b1 b2 h2 h3)
  have htl := Nat.le_trans (tells_len hk.ok d n) hk.big
  have HH := hid (fun (W2 : World) (hb : Below W.heap.size W W2) => (show J [] W2 ∧ ∀ k, Fp W2 k → k < W.heap.size from ⟨hJ [] W W2 none h0 (grown_of_below hb) (fun r e => (by cases e)), fun k hk2 => Nat.lt_of_lt_of_le (hF W2 (hW.trans (hb.mono hW.size)) k hk2) hW.size⟩))
  generalize tells d l n = xs at *
  clear hk hJ hJx h2 h3 h0
  have HY := hid hY
  clear hY
  refine callsIn_of_wp Try.func77 rfl trivial ?_ rfl
  simp only [Try.ntmps77, List.size_toArray, List.length_cons, List.length_nil, Nat.reduceAdd, Nat.reduceSub, Array.replicate_succ, Array.replicate_zero, List.push_toArray, List.append_toArray, List.nil_append, List.cons_append]
  change W.cell? _ = some (.func (.func 67) _ _) at h1
  change Hid (Calls Try.prog 67 _ _ _) at hT
  gi_wp2_with (refine ⟨trivial, fun h => (by cases h), ?_⟩; gi_at_call 67; refine (callsIn_wide.2 hT.out).mono ?_; rintro e w1 ⟨a, k, c, rfl, hO, hB⟩; have hlk := hO.len; rw [ints_length] at hlk; subst hlk; have HO := hid hO; have HB := hid hB; clear hO hB)
  gi_loopw [8] (FixRel xs J Fp W.heap.size a c) (fun t _ => xs.length - (intOf t).toNat)
  case atStart => exact ⟨0, rfl, Nat.zero_le _, (HH.out _ HB.out).1, HO.out, fun k hb hf => by have := (HH.out _ HB.out).2 k hf; have := HO.out.blk k hb; omega⟩
  case round =>
    obtain ⟨i, rfl, hi, hJs, hO, hN⟩ := hrel
    by_cases hlt : i < xs.length
    · obtain ⟨ga, rfl⟩ := hO.form (by omega)
      obtain ⟨_, e1, hL1⟩ := hO.lies rfl (ints_get xs i hlt)
      cases e1
      have y1 := hL1.1
      obtain ⟨fn, tmps, assign, body, hy, hR⟩ := HY.out (xs.take i) xs[i] wr hJs (by rw [List.length_take]; omega)
      rw [← take_step xs i hlt] at hR
      have HPF := hid (show xs.take (i + 1) <+: xs from List.take_prefix _ _)
      generalize xs[i] = x at *
      have HOr := hid hO
      have HNr := hid hN
      clear hO hN hL1
      gi_wp2
      refine ⟨fun h => (by cases h), hR.mono ?_⟩
      rintro e W3 (⟨rfl, hJ3, hk3⟩ | ⟨rfl, hJx3⟩)
      · obtain ⟨hO3, hN3⟩ := HOr.out.kq hk3 HNr.out
        have HO3 := hid hO3
        have HN3 := hid hN3
        clear hO3 hN3 hk3
        gi_wp2
        go_roundw
        case rel => exact ⟨i + 1, by go_num, by omega, hJ3, HO3.out, HN3.out⟩
        case measure => simp [intOf]; omega
      · gi_wp2
        refine bodyPost_ret (results_none rfl _ _ _) rfl ?_
        exact ⟨⟨_, rfl⟩, .inr ⟨_, HPF.out, hJx3⟩⟩
    · obtain rfl : i = xs.length := by omega
      rw [List.take_length] at hJs
      clear hO hN
      gi_wp2
      go_end0
      exact ⟨⟨_, rfl⟩, .inl ⟨_, rfl, hJs⟩⟩
theorem kq_put {Fp : World → Nat → Prop} {B : Nat} (hFc : ∀ (W : World) (L : Nat) (o o' : Obj), B ≤ L → W.heap[L]? = some o → o.isCells = false → ∀ k, Fp (W.putObj L o') k → Fp W k) (W : World) (L : Nat) (o o' : Obj) (hL : B ≤ L) (h : W.heap[L]? = some o) (ho : o.isCells = false) : Kq Fp W (W.putObj L o') := by
  refine ⟨(grownBy_putObj' W L o').size, fun k c hk hc _ => ?_, fun k hk => .inl (hFc W L o o' hL h ho k hk)⟩
  have hne : k ≠ L := fun e => by
    subst e
    rw [h] at hk
    cases hk
    rw [ho] at hc
    cases hc
  exact ((grownBy_putObj' W L o').block k (Array.getElem?_eq_some_iff.1 hk).1 (fun e => hne (by cases e; rfl))).trans hk
/-- A range over an iterator. -/
theorem range_any {N : Nat} {gop : Operand} {ps : Array Tmp} {assign body : Code} {Q : Exit → Act → World → Prop} {a : Act} {w : World} {g gb m : Nat} {l : Fo} {base b0 : Nat} {n : Int} (d : Bool)
    (h1 : 1 ≤ N) (hg : a.eval gop = .func (.func 77) #[] #[.pointer (some ⟨b0, 0, none⟩)]) (hq : Sq w d base b0 g n) (hk : Ki w g gb m l) (Fp : World → Nat → Prop) (hF : ∀ W, Below w.heap.size w W → ∀ k, Fp W k → k < w.heap.size)
    (hFc : ∀ (W : World) (L : Nat) (o o' : Obj), w.heap.size ≤ L → W.heap[L]? = some o → o.isCells = false → ∀ k, Fp (W.putObj L o') k → Fp W k) (hps : ps.size = 1)
    (I : List Int → World → Prop) (Ix : Code → List Int → World → Prop) (hI : OwnFrom w.heap.size I) (hIx : ∀ c, OwnFrom w.heap.size (Ix c)) (h0 : I [] w) (a₁ : Int → Act)
    (hassign : ∀ (L : Nat) (x : Int) (W : World) (K : Act → World → Prop), K (a₁ x) W →
      assign.wpIn (Fence.wide.inRound L) (N - 1 - 1) Try.prog (Exit.then K (fun _ _ _ => False)) { tmps := (ps.zip #[Value.int .i64 x]).foldl (fun t (p, v) => t.setIfInBounds p v) a.tmps, defers := [] } W)
    (hbody : ∀ (L : Nat) (pre : List Int) (x : Int) (W : World), I pre W → pre.length < (tells d l n).length → body.wpIn (Fence.wide.inRound L) (N - 1 - 1) Try.prog (ownPostG w.heap.size (Kq Fp) I Ix (pre ++ [x]) W) (a₁ x) W)
    (hdone : ∀ (D : Nat) (W : World), w.heap.size ≤ D → I (tells d l n) W → W.heap[D]? = some (.deferred (some [])) → Q .normal { a with defers := { target := .collected D, args := #[] } :: a.defers } W)
    (hstop : ∀ (D : Nat) (c : Code) (pre : List Int) (W : World), w.heap.size ≤ D → pre <+: tells d l n → Ix c pre W → W.heap[D]? = some (.deferred (some [])) → c.wpIn Fence.wide N Try.prog Q { a with defers := { target := .collected D, args := #[] } :: a.defers } W) :
    (Code.rangeFunc gop ps assign body).wpIn Fence.wide N Try.prog Q a w :=
  wpIn_rangeFunc_ownG rfl h1 (gf := 77) (lb := #[.pointer (some ⟨b0, 0, none⟩)]) hg trivial (enters_of Try.func77 (by kernel_rfl) rfl) (fix_in d hq hk Fp hF (N - 1)) Kq.trans
    (fun W L o o' hL h ho _ => kq_put hFc W L o o' hL h ho) (Below.refl _ _) (fun _ => hps.symm) I Ix hI hIx h0 a₁ hassign hbody (fun D xs W hD e => by subst e; exact hdone D W hD) hstop
end Go.Proofs.Ytgdhdfmgfncdkaa
