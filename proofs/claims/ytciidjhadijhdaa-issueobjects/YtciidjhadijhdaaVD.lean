import Derived.Test.YtciidjhadijhdaaVC
import Derived.BigQuiet
namespace Go.Proofs.Ytciidjhadijhdaa
open Go.RowKit Go.Shelf H
set_option linter.unusedVariables false

/-- A token's five cells. -/
structure Cet (w : World) (b o : Nat) (c : Tok) : Prop where
  c0 : w.cell? ⟨b, o, none⟩ = some (.int .i64 c.1.1)
  c1 : w.cell? ⟨b, o + 1, none⟩ = some (.int .u64 (c.1.2.1 : Int))
  c2 : w.cell? ⟨b, o + 2, none⟩ = some (.int .u64 (c.1.2.2 : Int))
  c3 : w.cell? ⟨b, o + 3, none⟩ = some (.int .i64 c.2.1)
  c4 : w.cell? ⟨b, o + 4, none⟩ = some (.int .i64 c.2.2)
theorem Cet.but {S : Nat → Prop} {w w' : World} {b o : Nat} {c : Tok} (hb : But S w w') (h : Cet w b o c) (hn : ¬ S b) : Cet w' b o c := ⟨cell_but hb h.c0 hn, cell_but hb h.c1 hn, cell_but hb h.c2 hn, cell_but hb h.c3 hn, cell_but hb h.c4 hn⟩
theorem Cet.later {w w' : World} {b o : Nat} {c : Tok} (h : Cet w b o c) (hb : Below w.heap.size w w') : Cet w' b o c := h.but (S := fun _ => False) (But.of hb) (fun h => h)
theorem Ow.at_ {w : World} {base : Nat} {e : TypeId} {k : Nat} {a : Option Addr} {n cap : Nat} {L : List Value} (h : Ow w base e k a n cap L) (hn : 0 < n) : ∃ b, a = some ⟨b, 0, none⟩ ∧ ∀ j u, L[j]? = some u → w.cell? ⟨b, j, none⟩ = some u := by
  rcases h.2 with ⟨_, h1⟩ | ⟨g, c, cur, hv, _⟩
  · omega
  · simp only [Value.slice.injEq] at hv
    refine ⟨g, hv.1, fun j u hu => ?_⟩
    have h' := h
    rw [Ow, hv.1] at h'
    have := World.ownsRow.cells (g := g) h' rfl j u hu
    rwa [addr_add0] at this
def rootOf (X : List Tk) (l : Fo) (o : Int) : Option Int := (nums l).find? (fun n => decide ((n, -1) ∈ l ∧ ob X n = o))
theorem rootOf_some {m : Nat} {X : List Tk} {l : Fo} (h : Inv m X l) {r : Int} (hr : (r, -1) ∈ l) : rootOf X l (ob X r) = some r := by
  unfold rootOf
  cases hf : (nums l).find? (fun n => decide ((n, -1) ∈ l ∧ ob X n = ob X r)) with
  | none => have := List.find?_eq_none.1 hf r (mem_nums.2 ⟨_, hr⟩); simp [hr] at this
  | some k =>
    have h0 := List.find?_some hf
    simp only [decide_eq_true_eq] at h0
    rw [h.root k r h0.1 hr h0.2]
def ofL (mo : Nat) (X : List Tk) (l : Fo) (o : Int) : List Tok := match rootOf X l o with
  | some r => (ofF X l mo (G true l r)).2
  | none => []
/-- What Of's list is: in Down's order, each behind its parent. -/
theorem ofF_spec {m : Nat} {X : List Tk} {l : Fo} (h : Ok m l) {r : Int} (hr : (r, -1) ∈ l) : ∀ i, i ≤ (G true l r).length →
    (∀ (j : Nat) (x : Int), j < i → (G true l r)[j]? = some x → (ofF X l m ((G true l r).take i)).1[x.toNat]? = some (j : Int)) ∧
    (∀ (j : Nat) (x : Int), j < i → (G true l r)[j]? = some x → ∃ q : Int, (ofF X l m ((G true l r).take i)).2[j]? = some ((tk X x).1, rg X x, q) ∧ ((j = 0 ∧ q = -1 ∧ par l x = -1) ∨ (0 < j ∧ ∃ p : Nat, p < j ∧ q = (p : Int) ∧ (G true l r)[p]? = some (par l x)))) := by
  have hnd := G_nodup h true r
  have hnn : ∀ x ∈ G true l r, 0 ≤ x ∧ x < (m : Int) := fun x hx => h.range x (G_nums h hx)
  intro i
  induction i with
  | zero => exact fun _ => ⟨fun j x hj => by omega, fun j x hj => by omega⟩
  | succ i ih =>
    intro hi
    obtain ⟨ih1, ih2⟩ := ih (by omega)
    have hs : (G true l r).take (i + 1) = (G true l r).take i ++ [(G true l r)[i]] := take_step _ i (by omega)
    obtain ⟨y, hy⟩ : ∃ y, y = (G true l r)[i] := ⟨_, rfl⟩
    have hyi : (G true l r)[i]? = some y := by rw [hy]; exact List.getElem?_eq_getElem (by omega)
    have hym : y ∈ G true l r := List.mem_of_getElem? hyi
    rw [hs, ← hy, ofF_snoc]
    have hl1 := ofF_len1 X l m ((G true l r).take i)
    have hl2 := ofF_len2 X l m ((G true l r).take i)
    rw [List.length_take_of_le (by omega)] at hl2
    refine ⟨fun j x hj hx => ?_, fun j x hj hx => ?_⟩
    · show ((ofF X l m ((G true l r).take i)).1.set y.toNat _)[x.toNat]? = _
      by_cases e : j = i
      · subst e
        rw [hyi] at hx
        cases hx
        have := hnn y hym
        rw [hl2, List.getElem?_set_self (by omega)]
      · have hxm := List.mem_of_getElem? hx
        have hne : y.toNat ≠ x.toNat := fun e2 => by
          have h1 := hnn y hym
          have h2 := hnn x hxm
          have e3 : y = x := by omega
          rw [e3] at hyi
          exact e (nd_idx hnd hx hyi)
        rw [List.getElem?_set_ne hne]
        exact ih1 j x (by omega) hx
    · show ∃ q : Int, ((ofF X l m ((G true l r).take i)).2 ++ [_])[j]? = _ ∧ _
      by_cases e : j = i
      · subst e
        rw [hyi] at hx
        cases hx
        refine ⟨_, by rw [List.getElem?_append_right (by omega), hl2, Nat.sub_self]; rfl, ?_⟩
        by_cases h0 : j = 0
        · subst h0
          have hG := G_eq h (e := true) (mem_nums.2 ⟨_, hr⟩)
          have : y = r := by rw [hG] at hyi; simpa using hyi.symm
          subst this
          have hp := par_eq h hr
          exact .inl ⟨rfl, by rw [if_pos hp], hp⟩
        · have hb := G_behind h (by omega) hyi
          obtain ⟨p, hp⟩ := List.getElem?_of_mem hb
          have hpl : p < j := by
            have := (List.getElem?_eq_some_iff.1 hp).1
            rw [List.length_take] at this
            omega
          rw [List.getElem?_take_of_lt hpl] at hp
          have hpn := hnn _ (List.mem_of_getElem? hp)
          refine .inr ⟨by omega, p, hpl, ?_, hp⟩
          rw [if_neg (by omega), ih1 p _ hpl hp]
          rfl
      · obtain ⟨q, h1, h2⟩ := ih2 j x (by omega) hx
        exact ⟨q, by rw [List.getElem?_append_left (by omega)]; exact h1, h2⟩
end Go.Proofs.Ytciidjhadijhdaa
