import Derived.Test.YticgammbjcdobaaCB
import Derived.Test.YticgammbjcdobaaPA
namespace Go.Proofs.Yticgammbjcdobaa
open Go.RowKit
def i64s (l : List Int) : List Value := l.map fun n => Value.int .i64 n
theorem i64s_length (l : List Int) : (i64s l).length = l.length := by simp [i64s]
theorem i64s_get (l : List Int) (i : Nat) (h : i < l.length) : (i64s l)[i]? = some (.int .i64 l[i]) := by simp [i64s, h]
structure RI (w : World) (a : Option Addr) (n cap : Nat) (L : List Int) : Prop where
  len : L.length = n
  cap_ : n ≤ cap
  none_ : a = none → n = 0 ∧ cap = 0
  cells : ∀ x, a = some x → ∀ j u, (i64s L)[j]? = some u → w.cell? (x.add j) = some u
theorem RI.later {W w1 : World} {a : Option Addr} {n cap : Nat} {L : List Int} (hb : Below W.heap.size W w1) (h : RI W a n cap L) : RI w1 a n cap L :=
  ⟨h.len, h.cap_, h.none_, fun x hx j u hu => cell_later hb (h.cells x hx j u hu)⟩
theorem RI.nil (w : World) : RI w none 0 0 [] := ⟨rfl, Nat.le_refl _, fun _ => ⟨rfl, rfl⟩, fun _ h => (by cases h)⟩
theorem RI.plain {w : World} {a : Option Addr} {n cap : Nat} {L : List Int} (h : RI w a n cap L) (hl : 0 < n) : ∃ b o, a = some ⟨b, o, none⟩ ∧ ∀ i (hi : i < L.length), w.cell? ⟨b, o + i, none⟩ = some (.int .i64 L[i]) := by
  cases a with
  | none => have := h.none_ rfl; omega
  | some x =>
    obtain ⟨b, o, spot⟩ := x
    have hlen := h.len
    have h0 := h.cells _ rfl 0 _ (i64s_get L 0 (by omega))
    have hs : spot = none := by simpa [Addr.add] using World.cell?_spot h0
    subst hs
    refine ⟨b, o, rfl, fun i hi => ?_⟩
    have := h.cells _ rfl i _ (i64s_get L i hi)
    rw [addr_add] at this
    exact this
theorem RI.at {w : World} {b o n cap : Nat} {L : List Int} (hl : L.length = n) (hc : n ≤ cap) (h : ∀ i (hi : i < L.length), w.cell? ⟨b, o + i, none⟩ = some (.int .i64 L[i])) : RI w (some ⟨b, o, none⟩) n cap L := by
  refine ⟨hl, hc, fun h => (by cases h), fun x hx j u hu => ?_⟩
  cases hx
  rw [addr_add]
  have hj : j < L.length := by have := (List.getElem?_eq_some_iff.1 hu).1; rwa [i64s_length] at this
  rw [i64s_get L j hj] at hu
  cases hu
  exact h j hj
theorem RI.one (w : World) (b : Int) : RI (w.alloc (Obj.cells #[Value.int .i64 b] 3)) (some ⟨w.heap.size, 0, .none⟩) 1 1 [b] :=
  RI.at (L := [b]) rfl (Nat.le_refl _) (fun i hi => by
    have : i = 0 := by simp at hi; omega
    subst this
    simp [go_sem])
structure Sl where
  a : Option Addr
  n : Nat
  c : Nat
abbrev Sl.v (s : Sl) : Value := .slice s.a s.n s.c
abbrev Sl.nil : Sl := ⟨none, 0, 0⟩
end Go.Proofs.Yticgammbjcdobaa
