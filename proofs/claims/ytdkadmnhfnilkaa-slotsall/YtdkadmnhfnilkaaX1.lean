import Derived.Test.YtdkadmnhfnilkaaR5
import Derived.Test.YtdkadmnhfnilkaaS1
namespace Go.Proofs.Ytdkadmnhfnilkaa
open Go.RowKit
set_option linter.unusedVariables false

/-- The program's table and the document's. -/
structure Pr (w : World) (g gb kn mo N r : Nat) (a : Option Addr) (cap : Nat) (E : List (Cp × Int)) : Prop where
  t : I.Tb w g gb kn mo N E
  f : Rf w r mo a cap E
  d1 : r ≠ g
  d2 : r ≠ gb
  d3 : ∀ k, Blk a k → k ≠ g ∧ k ≠ gb
/-- Their blocks. -/
def Xb (g gb r : Nat) (a : Option Addr) (k : Nat) : Prop := k = g ∨ k = gb ∨ k = r ∨ Blk a k
theorem Pr.but {S : Nat → Prop} {w w' : World} {g gb kn mo N r : Nat} {a : Option Addr} {cap : Nat} {E : List (Cp × Int)} (hb : But S w w') (h : Pr w g gb kn mo N r a cap E) (hS : ∀ k, Xb g gb r a k → ¬ S k) : Pr w' g gb kn mo N r a cap E :=
  ⟨h.t.but hb (hS g (.inl rfl)) (hS gb (.inr (.inl rfl))), h.f.but hb (hS r (.inr (.inr (.inl rfl)))) (fun k hk => hS k (.inr (.inr (.inr hk)))), h.d1, h.d2, h.d3⟩
theorem Pr.later {w w' : World} {g gb kn mo N r : Nat} {a : Option Addr} {cap : Nat} {E : List (Cp × Int)} (hb : Below w.heap.size w w') (h : Pr w g gb kn mo N r a cap E) : Pr w' g gb kn mo N r a cap E := h.but (S := fun _ => False) (But.of hb) (fun _ _ h => h)
theorem Pr.lt {w : World} {g gb kn mo N r : Nat} {a : Option Addr} {cap : Nat} {E : List (Cp × Int)} (h : Pr w g gb kn mo N r a cap E) : ∀ k, Xb g gb r a k → k < w.heap.size := by
  rintro k (rfl | rfl | rfl | hk)
  · exact h.t.lt
  · exact h.t.lt2
  · exact h.f.lt
  · exact h.f.blt k hk
/-- Behind a step of both. -/
def Stepped (w : World) (g gb kn mo N r : Nat) (a : Option Addr) (e : Ending) (w' : World) : Prop :=
  e = .returned (.bool true) ∧ ∃ a' cap' E', Pr w' g gb kn mo N r a' cap' E' ∧ But (Xb g gb r a) w w' ∧ ∀ k, Blk a' k → Blk a k ∨ w.heap.size ≤ k
theorem Stepped.same {w w' : World} {g gb kn mo N r : Nat} {a : Option Addr} {cap : Nat} {E : List (Cp × Int)} (h : Pr w g gb kn mo N r a cap E) (hb : Below w.heap.size w w') : Stepped w g gb kn mo N r a (.returned (.bool true)) w' :=
  ⟨rfl, a, cap, E, h.later hb, But.of hb, fun k hk => .inl hk⟩
/-- The step's own boxes. -/
theorem boxes (w : World) (g r : Nat) (sec : Bool) (kd o : Int) (hi lo : Nat) (v : Int) : ∀ U : World, U = (w.alloc (Obj.cells #[.pointer (some ⟨g, 0, none⟩), .pointer (some ⟨r, 0, none⟩)] 63)).alloc (Obj.cells #[.bool sec, .int .i64 kd, .int .i64 o, .int .u64 (hi : Int), .int .u64 (lo : Int), .int .i64 v] 36) →
    (U.cell? ⟨w.heap.size, 0, none⟩ = some (.pointer (some ⟨g, 0, none⟩)) ∧ U.cell? ⟨w.heap.size, 1, none⟩ = some (.pointer (some ⟨r, 0, none⟩)) ∧ U.cell? ⟨w.heap.size + 1, 2, none⟩ = some (.int .i64 o) ∧ U.cell? ⟨w.heap.size + 1, 3, none⟩ = some (.int .u64 (hi : Int)) ∧ U.cell? ⟨w.heap.size + 1, 4, none⟩ = some (.int .u64 (lo : Int)) ∧ U.cell? ⟨w.heap.size + 1, 5, none⟩ = some (.int .i64 v)) ∧ U.cell? ⟨w.heap.size + 1, 1, none⟩ = some (.int .i64 kd) ∧ Below w.heap.size w U := by
  rintro U rfl
  exact ⟨⟨by simp [go_sem], by simp [go_sem], by simp [go_sem], by simp [go_sem], by simp [go_sem], by simp [go_sem]⟩, by simp [go_sem], below2 _ _ _⟩

theorem rput_but {w1 w3 w4 : World} {g gb r mo : Nat} {a : Option Addr} {E : List (Cp × Int)} (hx : ∀ k, (k = r ∨ Blk a k) → Xb g gb r a k) (h : But (Xb g gb r a) w1 w3) (hr : Rput w3 r mo a E w4) : But (Xb g gb r a) w1 w4 := by
  obtain ⟨_, _, _, hb, _⟩ := hr
  exact h.trans (hb.mono hx)
theorem rdrop_but {w1 w3 w4 : World} {g gb r mo : Nat} {a : Option Addr} {E : List (Cp × Int)} {c : Cp} (hx : ∀ k, (k = r ∨ Blk a k) → Xb g gb r a k) (h : But (Xb g gb r a) w1 w3) (hr : Rdrop w3 r mo E c w4) : But (Xb g gb r a) w1 w4 := by
  obtain ⟨_, _, _, _, _, _, hb, _⟩ := hr
  exact h.trans (hb.mono (fun k hk => hx k (.inl hk)))
theorem rput_fin {w w3 w4 : World} {g gb kn mo N r : Nat} {a : Option Addr} {cap : Nat} {E E2 : List (Cp × Int)} (h : Pr w g gb kn mo N r a cap E) (hgr : ∀ k, I.In g gb k → ¬ (k = r ∨ Blk a k)) (ht : I.Tb w3 g gb kn mo N E2) (hr : Rput w3 r mo a E2 w4) (hb : But (fun k => k = r ∨ Blk a k) w3 w4 → But (Xb g gb r a) w w4) (hsz : w.heap.size ≤ w3.heap.size) :
    ∃ a' cap' E', Pr w4 g gb kn mo N r a' cap' E' ∧ But (Xb g gb r a) w w4 ∧ ∀ k, Blk a' k → Blk a k ∨ w.heap.size ≤ k := by
  obtain ⟨a', cap', hf, hbt, hon⟩ := hr
  refine ⟨a', cap', E2, ⟨ht.but hbt (hgr g (.inl rfl)) (hgr gb (.inr rfl)), hf, h.d1, h.d2, fun k hk => ?_⟩, hb hbt, fun k hk => ?_⟩
  · rcases hon k hk with h1 | h1
    · exact h.d3 k h1
    · have := h.t.lt
      have := h.t.lt2
      constructor <;> omega
  · rcases hon k hk with h1 | h1
    · exact .inl h1
    · exact .inr (Nat.le_trans hsz h1)
theorem rdrop_fin {w w3 w4 : World} {g gb kn mo N r : Nat} {a : Option Addr} {cap : Nat} {E E0 : List (Cp × Int)} {c : Cp} {u : Int} (h : Pr w g gb kn mo N r a cap E) (hgr : ∀ k, I.In g gb k → ¬ (k = r ∨ Blk a k)) (hE0 : E.Perm ((c, u) :: E0)) (hc : (c, u) ∈ E) (ht : I.Tb w3 g gb kn mo N E0) (hr : Rdrop w3 r mo E c w4) (hb : But (· = r) w3 w4 → But (Xb g gb r a) w w4) (hsz : w.heap.size ≤ w3.heap.size) :
    ∃ a' cap' E', Pr w4 g gb kn mo N r a' cap' E' ∧ But (Xb g gb r a) w w4 ∧ ∀ k, Blk a' k → Blk a k ∨ w.heap.size ≤ k := by
  obtain ⟨i, v, a', cap', hi, hf, hbt, hon⟩ := hr
  obtain rfl : v = u := one_val h.t.nodup (List.mem_of_getElem? hi) hc
  have hp : E.Perm ((c, v) :: (E.take i ++ E.drop (i + 1))) := by
    have e : E = E.take i ++ (c, v) :: E.drop (i + 1) := by
      have hlt := (List.getElem?_eq_some_iff.1 hi).1
      have h2 := (List.getElem?_eq_some_iff.1 hi).2
      rw [← h2, ← List.drop_eq_getElem_cons hlt, List.take_append_drop]
    have h3 : (E.take i ++ (c, v) :: E.drop (i + 1)).Perm ((c, v) :: (E.take i ++ E.drop (i + 1))) := List.perm_middle
    rwa [← e] at h3
  have ht2 := ht.perm ((hE0.symm.trans hp).cons_inv)
  refine ⟨a', cap', _, ⟨ht2.but hbt (fun e => hgr g (.inl rfl) (.inl e)) (fun e => hgr gb (.inr rfl) (.inl e)), hf, h.d1, h.d2, fun k hk => ?_⟩, hb hbt, fun k hk => .inr (Nat.le_trans hsz (hon k hk))⟩
  have := hon k hk
  have := h.t.lt
  have := h.t.lt2
  constructor <;> omega
end Go.Proofs.Ytdkadmnhfnilkaa
