import Derived.Test.YtaffgoacbiedlaaX3
import Derived.Test.YtaffgoacbiedlaaY0
import Derived.Deep.DeepCutAuto
namespace Go.Proofs.Ytaffgoacbiedlaa
open Go.RowKit
set_option linter.unusedVariables false
set_option linter.unusedSimpArgs false

theorem lvF (w : World) (A B C : Obj) (L : List Value) (hl : L.length = 13) : (loadVar 41 ⟨w.heap.size + 1, 0, none⟩).run Try.prog ((((w.alloc A).alloc (Obj.cells L.toArray 41)).alloc B).alloc C).drew.drew = .ok (.agg L.toArray) ((((w.alloc A).alloc (Obj.cells L.toArray 41)).alloc B).alloc C).drew.drew := by
  have h0 := Bx.new (w.alloc A) L 41
  have h1 : Bx ((((w.alloc A).alloc (Obj.cells L.toArray 41)).alloc B).alloc C).drew.drew (w.heap.size + 1) L := by
    have := (((h0.later (below1 _ B)).later (below1 _ C)).later (Below.refl _ _).drew).later (Below.refl _ _).drew
    simp at this
    exact this
  exact lv41 h1.range hl
theorem belF (w : World) (A B C D : Obj) : Below w.heap.size w ((((w.alloc A).alloc B).alloc C).alloc D).drew.drew := by
  have h1 : Below w.heap.size w ((w.alloc A).alloc B) := below2 _ _ _
  exact ((h1.alloc (by simp; omega) C).alloc (by simp; omega) D).drew.drew
end Go.Proofs.Ytaffgoacbiedlaa
