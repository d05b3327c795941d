import Derived.Test.YtgdhdfmgfncdkaaB7
namespace Go.Proofs.Ytgdhdfmgfncdkaa
open Go.RowKit Go.Shelf
set_option linter.unusedVariables false

/-- A range that is left by its end, or by one break: in both ways J. -/
theorem range_brk {N i : Nat} {gop : Operand} {p : Tmp} {assign body : Code} {Q1 : Exit → Act → World → Prop} {a : Act} {w : World} {g gb m : Nat} {l : Fo} {base b0 : Nat} {n : Int} (v : Bool) (d : Nat)
    (h1 : 1 ≤ N) (hg : a.eval gop = .func (.func 77) #[] #[.pointer (some ⟨b0, 0, none⟩)]) (hq : Sq w v base b0 g n) (hk : Ki w g gb m l) (S : Nat → Prop) (hS : ∀ k, S k → k < w.heap.size)
    (I : List Int → World → Prop) (Ix : Code → List Int → World → Prop) (J : World → Prop) (hI : OwnFrom w.heap.size I) (hIx : ∀ c, OwnFrom w.heap.size (Ix c)) (h0 : I [] w)
    (hd : ∀ W, I (tells v l n) W → J W) (hs : ∀ c pre W, pre <+: tells v l n → Ix c pre W → c = .exit i ∧ J W)
    (hassign : ∀ (L : Nat) (x : Int) (W : World) (K : Act → World → Prop), K (actX a p d x) W → assign.wpIn (Fence.wide.inRound L) (N - 1 - 1) Try.prog (Exit.then K (fun _ _ _ => False)) { tmps := a.tmps.setIfInBounds p (.int .i64 x), defers := [] } W)
    (hbody : ∀ (L : Nat) (pre : List Int) (x : Int) (W : World), I pre W → pre.length < (tells v l n).length → body.wpIn (Fence.wide.inRound L) (N - 1 - 1) Try.prog (ownPostG w.heap.size (Kq (fun _ => S)) I Ix (pre ++ [x]) W) (actX a p d x) W)
    (hrest : ∀ (D : Nat) (W : World), w.heap.size ≤ D → J W → W.heap[D]? = some (.deferred (some [])) → Q1 .normal { a with defers := { target := .collected D, args := #[] } :: a.defers } W) :
    (Code.rangeFunc gop #[p] assign body).wpIn Fence.wide N Try.prog (Exit.inBlock i Q1) a w :=
  range_at v d h1 hg hq hk S hS I Ix hI hIx h0 hassign hbody (fun D W hD hi hK => hrest D W hD (hd W hi) hK)
    (fun D c pre W hD hp hx hK => by
      obtain ⟨rfl, hj⟩ := hs c pre W hp hx
      refine wpIn_exit ?_
      have := hrest D W hD hj hK
      simpa [Exit.inBlock] using this)
theorem but_grown {W W' : World} {row : Option Nat} (h : W.grownBy W' row) : But (fun k => row = some k) W W' := ⟨h.os, h.tape, h.output, h.size, fun k hk hn => h.block k hk (fun e => hn e.symm)⟩
theorem ownFrom_but {β : Type} {S : Nat → Prop} {w1 : World} {B : Nat} (hB : w1.heap.size ≤ B) : OwnFrom B (fun (_ : β) W => But S w1 W) := fun s W W' row hs hg hr =>
  ⟨hg.os.trans hs.os, hg.tape.trans hs.tape, hg.output.trans hs.output, Nat.le_trans hs.size hg.size, fun k hk hn => (hg.block k (Nat.lt_of_lt_of_le hk hs.size) (fun e => by have := (hr k e.symm).1; omega)).trans (hs.block k hk hn)⟩
theorem ownFrom_ki {β : Type} {g gb m B : Nat} (F : β → Fo) (hg : g < B) (hgb : gb < B) : OwnFrom B (fun s W => Ki W g gb m (F s)) := fun s W W' row hs hgr hr =>
  hs.but (but_grown hgr) (fun e => by have := (hr g e).1; omega) (fun e => by have := (hr gb e).1; omega)
theorem ownFrom_imp {β : Type} {B : Nat} (p : β → Prop) {I : β → World → Prop} (h : OwnFrom B I) : OwnFrom B (fun s W => p s → I s W) := fun s W W' row hs hg hr hp => h s W W' row (hs hp) hg hr
theorem ownFrom_or {β : Type} {B : Nat} {I I' : β → World → Prop} (h : OwnFrom B I) (h' : OwnFrom B I') : OwnFrom B (fun s W => I s W ∨ I' s W) := fun s W W' row hs hg hr => hs.imp (fun x => h s W W' row x hg hr) (fun x => h' s W W' row x hg hr)
/-- A block for deferred calls, still empty. -/
def Df (W : World) (D : Nat) : Prop := W.heap[D]? = some (.deferred (some []))
theorem Df.lt {W : World} {D : Nat} (h : Df W D) : D < W.heap.size := (Array.getElem?_eq_some_iff.1 h).1
theorem Df.but {S : Nat → Prop} {W W' : World} {D : Nat} (h : Df W D) (hb : But S W W') (hn : ¬ S D) : Df W' D := (hb.block D h.lt hn).trans h
theorem Df.later {W W' : World} {D : Nat} (h : Df W D) (hb : Below W.heap.size W W') : Df W' D := (hb.block D h.lt).trans h
theorem Df.put {W : World} {D E : Nat} (h : Df W D) (hne : D ≠ E) : Df (W.putObj E (.deferred none)) D := (World.putObj_heap_other hne).trans h
theorem Sq.keep {S : Nat → Prop} {w w' : World} {d : Bool} {base b0 g : Nat} {n : Int} (hb : But S w w') (h : Sq w d base b0 g n) (hS : ∀ k, S k → k < base ∨ w.heap.size ≤ k) : Sq w' d base b0 g n := by
  obtain ⟨b1, b2, h0, h1, h2, h3, h4, h5⟩ := h
  have l0 : b0 < w.heap.size := World.block_lt_of_cell? _ _ h0
  have l1 : b1 < w.heap.size := World.block_lt_of_cell? _ _ h1
  have l2 : b2 < w.heap.size := World.block_lt_of_cell? _ _ h2
  exact ⟨b1, b2, cell_but hb h0 (fun hs => by rcases hS _ hs with h | h <;> simp at h <;> omega), cell_but hb h1 (fun hs => by rcases hS _ hs with h | h <;> simp at h <;> omega), cell_but hb h2 (fun hs => by rcases hS _ hs with h | h <;> simp at h <;> omega), h3, h4, h5⟩
end Go.Proofs.Ytgdhdfmgfncdkaa
