import Derived.Test.YtgdhdfmgfncdkaaB6
namespace Go.Proofs.Ytgdhdfmgfncdkaa
open Go.RowKit Go.Shelf
set_option linter.unusedVariables false
attribute [local go_sem] Oper.semAt_some

/-- The activation in a round: the loop's variable (slot d, by slot p) holds x. -/
abbrev actX (a : Act) (p d : Nat) (x : Int) : Act := { tmps := (a.tmps.setIfInBounds p (.int .i64 x)).setIfInBounds d (.int .i64 x), defers := [] }
theorem range_at {N : Nat} {gop : Operand} {p : Tmp} {assign body : Code} {Q : Exit → Act → World → Prop} {a : Act} {w : World} {g gb m : Nat} {l : Fo} {base b0 : Nat} {n : Int} (v : Bool) (d : Nat)
    (h1 : 1 ≤ N) (hg : a.eval gop = .func (.func 77) #[] #[.pointer (some ⟨b0, 0, none⟩)]) (hq : Sq w v base b0 g n) (hk : Ki w g gb m l) (S : Nat → Prop) (hS : ∀ k, S k → k < w.heap.size)
    (I : List Int → World → Prop) (Ix : Code → List Int → World → Prop) (hI : OwnFrom w.heap.size I) (hIx : ∀ c, OwnFrom w.heap.size (Ix c)) (h0 : I [] w)
    (hassign : ∀ (L : Nat) (x : Int) (W : World) (K : Act → World → Prop), K (actX a p d x) W → assign.wpIn (Fence.wide.inRound L) (N - 1 - 1) Try.prog (Exit.then K (fun _ _ _ => False)) { tmps := a.tmps.setIfInBounds p (.int .i64 x), defers := [] } W)
    (hbody : ∀ (L : Nat) (pre : List Int) (x : Int) (W : World), I pre W → pre.length < (tells v l n).length → body.wpIn (Fence.wide.inRound L) (N - 1 - 1) Try.prog (ownPostG w.heap.size (Kq (fun _ => S)) I Ix (pre ++ [x]) W) (actX a p d x) W)
    (hdone : ∀ (D : Nat) (W : World), w.heap.size ≤ D → I (tells v l n) W → W.heap[D]? = some (.deferred (some [])) → Q .normal { a with defers := { target := .collected D, args := #[] } :: a.defers } W)
    (hstop : ∀ (D : Nat) (c : Code) (pre : List Int) (W : World), w.heap.size ≤ D → pre <+: tells v l n → Ix c pre W → W.heap[D]? = some (.deferred (some [])) → c.wpIn Fence.wide N Try.prog Q { a with defers := { target := .collected D, args := #[] } :: a.defers } W) :
    (Code.rangeFunc gop #[p] assign body).wpIn Fence.wide N Try.prog Q a w :=
  range_any v h1 hg hq hk (fun _ => S) (fun _ _ k hk => hS k hk) (fun _ _ _ _ _ _ _ _ h => h) rfl I Ix hI hIx h0 (actX a p d) (fun L x W K hK => by rw [show (#[p].zip #[Value.int .i64 x]).foldl (fun t (p, v) => t.setIfInBounds p v) a.tmps = a.tmps.setIfInBounds p (.int .i64 x) by simp]; exact hassign L x W K hK) hbody hdone hstop
theorem kq_same {S : Nat → Prop} {W W' : World} (h : But S W W') : Kq (fun _ => S) W W' := kq_but h (fun _ h => h) (fun _ h => .inl h)
theorem keeps_below {S : Nat → Prop} {B : Nat} {W W' : World} (h : But S W W') (hS : ∀ k, S k → k < B) : KeepsFrom B W W' := keeps_but h (fun k o _ _ hB hs => by have := hS k hs; omega)
/-- The next of a list that is told in its order. -/
theorem pre_next {xs pre : List Int} {x : Int} (h : pre <+: xs) (hlt : pre.length < xs.length) : (xs[pre.length]? = some x ↔ pre ++ [x] <+: xs) := by
  obtain ⟨t, rfl⟩ := h
  cases t with
  | nil => simp at hlt
  | cons y t =>
    rw [List.getElem?_append_right (Nat.le_refl _), Nat.sub_self, List.getElem?_cons_zero, Option.some.injEq]
    constructor
    · intro e
      subst e
      exact ⟨t, by simp⟩
    · rintro ⟨r, hr⟩
      rw [List.append_assoc] at hr
      have := List.append_cancel_left hr
      simp at this
      exact this.1.symm
end Go.Proofs.Ytgdhdfmgfncdkaa
