import Derived.Test.YtpajmpfdaihehaaD1
namespace Go.Proofs.Ytpajmpfdaihehaa
open Go.RowKit
set_option linter.unusedVariables false

/-- A call's three cells. -/
structure Sb (w : World) (b o : Nat) (s : Op3) : Prop where
  c0 : w.cell? ⟨b, o, none⟩ = some (.int .i64 s.1)
  c1 : w.cell? ⟨b, o + 1, none⟩ = some (.int .i64 s.2.1)
  c2 : w.cell? ⟨b, o + 2, none⟩ = some (.int .i64 s.2.2)
theorem Sb.but {S : Nat → Prop} {w w' : World} {b o : Nat} {s : Op3} (hb : But S w w') (h : Sb w b o s) (hn : ¬ S b) : Sb w' b o s :=
  ⟨cell_but hb h.c0 hn, cell_but hb h.c1 hn, cell_but hb h.c2 hn⟩
theorem Sb.later {w w' : World} {b o : Nat} {s : Op3} (hb : Below w.heap.size w w') (h : Sb w b o s) : Sb w' b o s := h.but (S := fun _ => False) (But.of hb) (fun h => h)
/-- A script of n calls. -/
def Ss (w : World) (a : Option Addr) (n : Nat) (f : Nat → Op3) : Prop := 0 < n → ∃ b o, a = some ⟨b, o, none⟩ ∧ ∀ i, i < n → Sb w b (o + i * 3) (f i)
theorem Ss.later {w w' : World} {a : Option Addr} {n : Nat} {f : Nat → Op3} (hb : Below w.heap.size w w') (h : Ss w a n f) : Ss w' a n f := fun h0 => by
  obtain ⟨b, o, e, hc⟩ := h h0
  exact ⟨b, o, e, fun i hi => (hc i hi).later hb⟩
theorem Did.below {w w1 w' : World} {g gb m : Nat} {c : Int} {l : Fo} {e : Ending} (hb : Below w.heap.size w w1) (hg : w.heap.size ≤ gb) (h : Did w1 g gb m c l e w') : Below w.heap.size w w' :=
  But.below hb h.2.2 (fun k hk => by rw [hk]; exact hg)
/-- How often a node stands among the children of q. -/
theorem kids_count {m : Nat} {l : Fo} (h : Ok m l) {k p : Int} (hk : (k, p) ∈ l) (q : Nat) : (kids l (q : Int)).count k = if p = (q : Int) then 1 else 0 := by
  unfold kids
  rw [if_pos (by omega), (h.chNodup q).count]
  by_cases hp : p = (q : Int)
  · rw [if_pos hp, if_pos (mem_ch.2 (by rw [← hp]; exact hk))]
  · rw [if_neg hp, if_neg (fun hm => hp (h.uniq hk (mem_ch.1 hm)))]
theorem kids_par {m : Nat} {l : Fo} (h : Ok m l) {k p : Int} (hk : (k, p) ∈ l) {q : Nat} (hm : k ∈ kids l (q : Int)) : p = (q : Int) := by
  unfold kids at hm
  rw [if_pos (by omega)] at hm
  exact h.uniq hk (mem_ch.1 hm)
theorem count_step (A : List Int) (i : Nat) (h : i < A.length) (k : Int) : (A.take (i + 1)).count k = (A.take i).count k + (if A[i] = k then 1 else 0) := by
  rw [take_step A i h, List.count_append]
  congr 1
  by_cases e : A[i] = k <;> simp [e]
/-- The number m by its rest. -/
theorem rest40 (x : Int) : ∃ m : Nat, m < 40 ∧ ((x.tmod 40 < 0 ∧ x.tmod 40 + 40 = (m : Int)) ∨ (¬ x.tmod 40 < 0 ∧ x.tmod 40 = (m : Int))) := by
  have t1 : -40 < x.tmod 40 := Int.lt_tmod_of_pos x (by omega)
  have t2 : x.tmod 40 < 40 := Int.tmod_lt_of_pos x (by omega)
  by_cases h : x.tmod 40 < 0
  · exact ⟨(x.tmod 40 + 40).toNat, by omega, .inl ⟨h, by omega⟩⟩
  · exact ⟨(x.tmod 40).toNat, by omega, .inr ⟨h, by omega⟩⟩
end Go.Proofs.Ytpajmpfdaihehaa
