import Derived.Test.YtpajmpfdaihehaaR3
namespace Go.Proofs.Ytpajmpfdaihehaa
open Go.RowKit
set_option linter.unusedVariables false

theorem ints_set (L : List Int) (j : Nat) (v : Int) : (ints L).set j (.int .i64 v) = ints (L.set j v) := by simp [ints, List.map_set]
theorem Own.set {w : World} {base g n c j : Nat} {L : List Int} {v : Int} (h : Own w base 3 (some ⟨g, 0, none⟩) n c (ints L)) : Own (w.setCell ⟨g, j, none⟩ (.int .i64 v)) base 3 (some ⟨g, 0, none⟩) n c (ints (L.set j v)) :=
  ⟨by rw [← ints_set]; exact (h.row.stored j _).1, ints_one _⟩
theorem Own.form {w : World} {base : Nat} {e : TypeId} {a : Option Addr} {n cap : Nat} {L : List Value} (h : Own w base e a n cap L) (hn : 0 < n) : ∃ g, a = some ⟨g, 0, none⟩ := by
  rcases h.row.2 with ⟨_, h1⟩ | ⟨g, c, cur, hv, _⟩
  · omega
  · simp only [Value.slice.injEq] at hv
    exact ⟨g, hv.1⟩
/-- Both forests. -/
structure Duo (w : World) (g gb r hb m : Nat) (l : Fo) : Prop where
  ki : Ki w g gb m l
  re : Re w r hb m l
  gb : gb < hb
  g : g < hb
  hb : hb ≤ w.heap.size
theorem Duo.later {w w' : World} {g gb r hb m : Nat} {l : Fo} (h : Duo w g gb r hb m l) (h0 : Below w.heap.size w w') : Duo w' g gb r hb m l :=
  ⟨h.ki.later h0, h.re.later h0, h.gb, h.g, Nat.le_trans h.hb h0.size⟩
/-- One step of both. -/
theorem Duo.did {w w1 : World} {g gb r hb m : Nat} {c : Int} {l l2 : Fo} {e : Ending} (h : Duo w g gb r hb m l) (hD : Did w g gb m c l2 e w1) : Re w1 r hb m l ∧ hb ≤ w1.heap.size :=
  ⟨h.re.but hD.2.2 (fun k hk => by rw [hk]; exact h.gb), Nat.le_trans h.hb hD.2.2.size⟩
theorem Duo.dd {w w1 : World} {g gb r hb m : Nat} {c : Int} {l l2 : Fo} {e : Ending} (h1 : gb < hb) (h2 : g < hb) (h3 : hb ≤ w.heap.size) (hK : Ki w g gb m l2) (hR : Re w r hb m l) (hD : Dd w r hb m c l2 e w1) : Duo w1 g gb r hb m l2 :=
  ⟨hK.but hD.2.2 (fun h => by have := (hR.rb h).1; omega) (fun h => by have := (hR.rb h).1; omega), hD.2.1, h1, h2, Nat.le_trans h3 hD.2.2.size⟩
end Go.Proofs.Ytpajmpfdaihehaa
