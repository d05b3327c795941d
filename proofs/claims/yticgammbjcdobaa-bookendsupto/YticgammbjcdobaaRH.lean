import Derived.Test.YticgammbjcdobaaRA
import Derived.Test.YticgammbjcdobaaRE
namespace Go.Proofs.Yticgammbjcdobaa
open Go.RowKit Go.Shelf Go.Lib Go.Sort
set_option linter.unusedVariables false
set_option linter.unusedSimpArgs false
instance : Inhabited Tn := ⟨⟨0, 0, 0, 0, 0, 0⟩⟩
/-- Two numbers held against one another. -/
def cmpI (a b : Int) : Int := if a < b then -1 else if b < a then 1 else 0
def cmpT (x y : Tn) : Int := cmpI x.s y.s
theorem ltT (x y : Tn) : ltOf cmpT x y = decide (x.s < y.s) := by
  unfold ltOf cmpT cmpI
  by_cases h1 : x.s < y.s
  · simp [h1]
  · by_cases h2 : y.s < x.s <;> simp [h1, h2]
theorem swoT : SWO (ltOf cmpT) where
  irrefl x := by rw [ltT]; simp
  trans x y z h1 h2 := by rw [ltT] at *; simp at *; omega
  ntrans x y z h1 h2 := by rw [ltT] at *; simp at *; omega
theorem nan_any (a : Int) (w : World) : Calls Try.prog 56 #[.int .i64 a] w fun e w' => e = .returned (.bool false) ∧ w' = w := by
  go_enter Try.func56, Try.ntmps56
  go_wp2
  go_ret
  exact ⟨rfl, rfl⟩
set_option maxRecDepth 100000 in
set_option maxHeartbeats 1000000 in
theorem cmp_any (a b : Int) (w : World) : Calls Try.prog 51 #[.int .i64 a, .int .i64 b] w fun e w' => e = .returned (.int .i64 (cmpI a b)) ∧ w' = w := by
  by_cases h1 : a < b
  · have e : cmpI a b = -1 := by unfold cmpI; rw [if_pos h1]
    rw [e]
    clear e
    go_enter Try.func51, Try.ntmps51
    go_wp2_with (first | (go_at_call 56; refine (nan_any _ _).mono ?_; rintro e w' ⟨rfl, rfl⟩))
    go_ret
    exact ⟨rfl, rfl⟩
  by_cases h2 : b < a
  · have e : cmpI a b = 1 := by unfold cmpI; rw [if_neg h1, if_pos h2]
    rw [e]
    clear e
    go_enter Try.func51, Try.ntmps51
    go_wp2_with (first | (go_at_call 56; refine (nan_any _ _).mono ?_; rintro e w' ⟨rfl, rfl⟩))
    go_ret
    exact ⟨rfl, rfl⟩
  · have e : cmpI a b = 0 := by unfold cmpI; rw [if_neg h1, if_neg h2]
    rw [e]
    clear e
    go_enter Try.func51, Try.ntmps51
    go_wp2_with (first | (go_at_call 56; refine (nan_any _ _).mono ?_; rintro e w' ⟨rfl, rfl⟩))
    go_ret
    exact ⟨rfl, rfl⟩
set_option maxRecDepth 100000 in
set_option maxHeartbeats 1000000 in
theorem step_any (x y : Tn) (w : World) : Calls Try.prog 37 #[x.v, y.v] w fun e w' => e = .returned (.int .i64 (cmpT x y)) ∧ ∃ q os', w' = grow (w.drewN q) os' := by
  have fin : ∀ (o p : Obj), ∃ q os', (w.alloc o).alloc p = grow (w.drewN q) os' := fun o p => ⟨0, _, by rw [alloc_eq_grow, alloc_eq_grow, grow_grow]; rfl⟩
  have HF := hid fin
  clear fin
  have hc := fun W => cmp_any x.s y.s W
  have e : cmpT x y = cmpI x.s y.s := rfl
  rw [e]
  clear e
  generalize cmpI x.s y.s = r at hc ⊢
  go_enter Try.func37, Try.ntmps37
  go_wp2_with (first | (go_at_call 51; refine (hc _).mono ?_; rintro e w' ⟨rfl, rfl⟩))
  go_ret
  exact ⟨rfl, HF.out _ _⟩
theorem flatT_get : ∀ (ts : List Tn) (i j : Nat) (t : Tn), ts[i]? = some t → j < 6 → (flatT ts)[i * 6 + j]? = t.L[j]?
  | [], i, j, t, h, _ => by simp at h
  | x :: r, 0, j, t, h, hj => by
    simp at h
    subst h
    have e : flatT (x :: r) = x.L ++ flatT r := by simp [flatT]
    rw [e, List.getElem?_append_left (by simpa [Tn.L] using hj)]
    simp
  | x :: r, i + 1, j, t, h, hj => by
    simp at h
    have e : flatT (x :: r) = x.L ++ flatT r := by simp [flatT]
    rw [e, List.getElem?_append_right (by simp [Tn.L]; omega)]
    rw [show (i + 1) * 6 + j - x.L.length = i * 6 + j by simp [Tn.L]; omega]
    exact flatT_get r i j t h hj
theorem Ow.holdsT {w : World} {base g n c : Nat} {ts : List Tn} (h : Ow w base 77 6 (some ⟨g, 0, none⟩) n c (flatT ts)) : HoldsK Tn.L 6 w g 0 ts.toArray := by
  have hcl := h.cells rfl
  have hfr : ∀ j, w.frozen? ⟨g, j, none⟩ = false := by
    rcases h.2 with ⟨h0, _⟩ | ⟨g', cp, cur, hv, _, hh, hc, _⟩
    · simp at h0
    · simp only [Value.slice.injEq, Option.some.injEq, Addr.mk.injEq] at hv
      obtain ⟨⟨rfl, _⟩, _, rfl⟩ := hv
      exact fun j => by simp [World.frozen?, hh]
  intro j hj
  rw [size_flatK] at hj
  simp only [List.size_toArray] at hj
  obtain ⟨t, ht⟩ : ∃ t, ts[j / 6]? = some t := ⟨_, List.getElem?_eq_getElem (by omega)⟩
  have hg := flatT_get ts (j / 6) (j % 6) t ht (by omega)
  have e : j / 6 * 6 + j % 6 = j := by omega
  rw [e] at hg
  have hlt : j % 6 < t.L.length := by simp [Tn.L]; omega
  have h2 : t.L[j % 6]? = some t.L[j % 6]! := by rw [List.getElem?_eq_getElem hlt, getElem!_pos t.L _ hlt]
  have h3 := hcl j _ (hg.trans h2)
  rw [Nat.zero_add] at h3
  refine ⟨?_, by rw [Nat.zero_add]; exact hfr j⟩
  rw [get_flatK _ _ _ _ (by simpa using hj), Nat.zero_add, h3]
  have e3 : ts.toArray[j / 6]! = t := by
    have hlt2 : j / 6 < ts.length := by omega
    rw [getElem!_pos ts.toArray _ (by simpa using hlt2)]
    rw [List.getElem?_eq_getElem hlt2] at ht
    simpa using ht
  rw [e3]
  rfl
theorem sortW_but {w : World} {b n : Nat} {d d' : Array Tn} {os : Array Obj} (hlt : b < w.heap.size) : But (· = b) w (sortWorldK Tn.L 6 w b 0 n d' os) := by
  have hsz : (putRowK Tn.L 6 (Go.Sort.ahead w n) b 0 d').heap.size = w.heap.size := by unfold putRowK; rw [Go.Sort.size_putRow]; rfl
  refine ⟨rfl, rfl, rfl, ?_, fun j hj hn => ?_⟩
  · unfold sortWorldK
    rw [size_grow, hsz]
    omega
  · unfold sortWorldK
    rw [heap_grow_old _ _ (by rw [hsz]; exact hj)]
    unfold putRowK putRow mapBlock
    have hn' : b ≠ j := fun e => hn e.symm
    simp [Go.Sort.ahead, Array.getElem?_modify, hn']
/-- Tokens that can be read. -/
def Tks (w : World) (base : Nat) (a : Option Addr) (ts : List Tn) : Prop := ∀ i t, ts[i]? = some t → ∃ g, a = some ⟨g, 0, none⟩ ∧ base ≤ g ∧ w.rangeAt g (i * 6) t.L
end Go.Proofs.Yticgammbjcdobaa
