import Derived.Test.YtpajmpfdaihehaaB2
namespace Go.Proofs.Ytpajmpfdaihehaa
open Go.RowKit
set_option linter.unusedVariables false

def LineRel (w : World) (l : Fo) (n : Int) (k : Nat) (t v : Value) (w' : World) : Prop :=
  ∃ (O : List Int) (x : Int) (a : Option Addr) (i c : Nat), v = .slice a i c ∧ t = .int .i64 x ∧ i + k = (U l n).length ∧ O ++ U l x = U l n ∧ Own w' w.heap.size 3 a i c (ints O) ∧ Below w.heap.size w w'
set_option maxRecDepth 100000 in
set_option maxHeartbeats 1600000 in
theorem line_any {w : World} {g gb m : Nat} {l : Fo} (h : Ki w g gb m l) (n : Int) :
    Calls Try.prog 41 #[.pointer (some ⟨g, 0, none⟩), .int .i64 n] w fun r w' => ∃ a k cap, r = .returned (.slice a k cap) ∧ Own w' w.heap.size 3 a k cap (ints (U l n)) ∧ Below w.heap.size w w' := by
  have hbig := h.big
  have hok := hid h.ok
  have hul := Nat.le_trans (U_len hok.out n) hbig
  have HK := hid h
  clear h
  go_enter Try.func41, Try.ntmps41
  go_upto_region 2 with fail
  go_loopg [1, 5] (U l n).length (LineRel w l n)
  case atStart => exact ⟨[], n, none, 0, 0, rfl, rfl, by omega, by simp, Own.nil _ _ _, Below.refl _ _⟩
  case round =>
    obtain ⟨O, x, a, i, c, rfl, rfl, hik, hU, hO, hB⟩ := hrel
    have hlO := hO.len
    rw [ints_length] at hlO
    have hh := has_any (HK.out.later hB) x
    by_cases hx : x ∈ nums l
    · rw [decide_eq_true hx] at hh
      obtain ⟨p, hp⟩ := mem_nums.1 hx
      have hue := U_eq hok.out hp
      obtain ⟨a', c', w2, hrun, hO2, hG2⟩ := append_one x (.inl hO) hB.size (by have := congrArg List.length hU; rw [List.length_append] at this; omega)
      have hB2 : Below w.heap.size w w2 := hB.trans (hG2.below hO hB.size)
      have hpa := parent_any (HK.out.later hB2) x
      rw [show parV l x = .tuple #[.int .i64 p, .bool true] by unfold parV; rw [find_in hok.out hp]] at hpa
      have hk : 1 ≤ gk := by
        have := congrArg List.length hU
        rw [hue, List.length_append, List.length_cons] at this
        omega
      have HU : Hid ((O ++ [x]) ++ U l p = U l n) := hid (by rw [← hU, hue]; simp)
      have HRUN := hid hrun
      have HO2 := hid hO2
      have HB2 := hid hB2
      clear hO hB hrun hO2 hG2 hB2 hU hue hp hx
      go_wp2_with (first | (go_at_call 11; refine hh.mono ?_; rintro e w1 ⟨rfl, rfl⟩) | (at_builtin; refine wpList_append_known rfl _ _ 28 rfl _ _ rfl rfl _ w2 HRUN.out ?_) | (go_at_call 13; refine hpa.mono ?_; rintro e w3 ⟨rfl, rfl⟩))
      go_roundg (gk - 1)
      case measure => omega
      case rel => exact ⟨O ++ [x], p, a', i + 1, c', rfl, rfl, by omega, HU.out, HO2.out, HB2.out⟩
    · rw [decide_eq_false hx] at hh
      rw [U_out hx, List.append_nil] at hU
      have HU := hid hU
      have HO := hid hO
      have HB := hid hB
      clear hO hB hU hx
      go_wp2_with (first | (go_at_call 11; refine hh.mono ?_; rintro e w1 ⟨rfl, rfl⟩))
      go_ret
      exact ⟨a, i, c, rfl, by rw [← HU.out]; exact HO.out, HB.out⟩
/-- What an iterator tells: Down's, or Up's. -/
def tells (d : Bool) (l : Fo) (n : Int) : List Int := if d then G true l n else U l n
theorem tells_len {m : Nat} {l : Fo} (h : Ok m l) (d : Bool) (n : Int) : (tells d l n).length ≤ m := by
  unfold tells
  split
  · exact G_len h _ _
  · exact U_len h _
def takeF (d : Bool) : Nat := if d then 39 else 40
set_option maxRecDepth 100000 in
set_option maxHeartbeats 1000000 in
theorem take_any {w : World} {g gb m : Nat} {l : Fo} (h : Ki w g gb m l) (d : Bool) (n : Int) (b1 b2 : Nat) (h1 : w.cell? ⟨b1, 0, none⟩ = some (.pointer (some ⟨g, 0, none⟩))) (h2 : w.cell? ⟨b2, 0, none⟩ = some (.int .i64 n)) :
    Calls Try.prog (takeF d) #[.pointer (some ⟨b1, 0, none⟩), .pointer (some ⟨b2, 0, none⟩)] w fun r w' => ∃ a k cap, r = .returned (.slice a k cap) ∧ Own w' w.heap.size 3 a k cap (ints (tells d l n)) ∧ Below w.heap.size w w' := by
  cases d
  · have hc := hid (line_any h n)
    show Calls Try.prog 40 _ _ _
    unfold tells
    rw [if_neg (by simp)]
    generalize U l n = X at hc ⊢
    clear h
    go_enter Try.func40, Try.ntmps40
    go_wp2_with (first | (go_at_call 41; refine hc.out.mono ?_; rintro e w1 ⟨a, k, cap, rfl, hO, hB⟩; have HO := hid hO; have HB := hid hB; clear hO hB))
    go_ret
    exact ⟨a, k, cap, rfl, HO.out, HB.out⟩
  · have hc := hid (subtree_any h n true)
    show Calls Try.prog 39 _ _ _
    unfold tells
    rw [if_pos rfl]
    generalize G true l n = X at hc ⊢
    clear h
    go_enter Try.func39, Try.ntmps39
    go_wp2_with (first | (go_at_call 34; refine hc.out.mono ?_; rintro e w1 ⟨a, k, cap, rfl, hO, hB⟩; have HO := hid hO; have HB := hid hB; clear hO hB))
    go_ret
    exact ⟨a, k, cap, rfl, HO.out, HB.out⟩
set_option maxRecDepth 100000 in
set_option maxHeartbeats 1000000 in
theorem fixed_any (w : World) (f : Fn) (a b : Array Value) : Calls Try.prog 38 #[.func f a b] w fun e w' => e = .returned (.func (.func 51) #[] #[.pointer (some ⟨w.heap.size, 0, none⟩)]) ∧ w' = w.alloc (Obj.cells #[.func f a b] 70) := by
  go_enter Try.func38, Try.ntmps38
  go_wp2
  go_ret
  exact ⟨rfl, rfl⟩
/-- An iterator in memory. -/
def Sq (w : World) (d : Bool) (base b0 g : Nat) (n : Int) : Prop :=
  ∃ b1 b2, w.cell? ⟨b0, 0, none⟩ = some (.func (.func (takeF d)) #[] #[.pointer (some ⟨b1, 0, none⟩), .pointer (some ⟨b2, 0, none⟩)]) ∧ w.cell? ⟨b1, 0, none⟩ = some (.pointer (some ⟨g, 0, none⟩)) ∧ w.cell? ⟨b2, 0, none⟩ = some (.int .i64 n) ∧ base ≤ b0 ∧ base ≤ b1 ∧ base ≤ b2
theorem Sq.but {S : Nat → Prop} {w w' : World} {d : Bool} {base b0 g : Nat} {n : Int} (hb : But S w w') (h : Sq w d base b0 g n) (hS : ∀ k, S k → k < base) : Sq w' d base b0 g n := by
  obtain ⟨b1, b2, h0, h1, h2, h3, h4, h5⟩ := h
  exact ⟨b1, b2, cell_but hb h0 (fun hs => by have := hS _ hs; simp at this; omega), cell_but hb h1 (fun hs => by have := hS _ hs; simp at this; omega), cell_but hb h2 (fun hs => by have := hS _ hs; simp at this; omega), h3, h4, h5⟩
theorem Sq.later {w w' : World} {d : Bool} {base b0 g : Nat} {n : Int} (hb : Below w.heap.size w w') (h : Sq w d base b0 g n) : Sq w' d base b0 g n := h.but (S := fun _ => False) (But.of hb) (fun _ h => h.elim)
theorem Sq.lt {w : World} {d : Bool} {base b0 g : Nat} {n : Int} (h : Sq w d base b0 g n) : b0 < w.heap.size := by
  obtain ⟨b1, b2, h0, _⟩ := h
  exact World.block_lt_of_cell? _ _ h0
def makeF (d : Bool) : Nat := if d then 18 else 19
set_option maxRecDepth 100000 in
set_option maxHeartbeats 1000000 in
theorem make_any (d : Bool) (g : Nat) (n : Int) (w : World) : Calls Try.prog (makeF d) #[.pointer (some ⟨g, 0, none⟩), .int .i64 n] w fun e w' => ∃ b0, e = .returned (.func (.func 51) #[] #[.pointer (some ⟨b0, 0, none⟩)]) ∧ Sq w' d w.heap.size b0 g n ∧ Below w.heap.size w w' := by
  cases d
  · show Calls Try.prog 19 _ _ _
    go_enter Try.func19, Try.ntmps19
    go_wp2_with (first | (go_at_call 38; refine (fixed_any _ _ _ _).mono ?_; rintro e w1 ⟨rfl, rfl⟩))
    go_ret
    refine ⟨_, rfl, ⟨w.heap.size, w.heap.size + 1, ?_, ?_, ?_, ?_, ?_, ?_⟩, (below2 _ _ _).alloc (by simp; omega) _⟩
    all_goals try simp [go_sem, takeF]
    all_goals omega
  · show Calls Try.prog 18 _ _ _
    go_enter Try.func18, Try.ntmps18
    go_wp2_with (first | (go_at_call 38; refine (fixed_any _ _ _ _).mono ?_; rintro e w1 ⟨rfl, rfl⟩))
    go_ret
    refine ⟨_, rfl, ⟨w.heap.size, w.heap.size + 1, ?_, ?_, ?_, ?_, ?_, ?_⟩, (below2 _ _ _).alloc (by simp; omega) _⟩
    all_goals try simp [go_sem, takeF]
    all_goals omega
end Go.Proofs.Ytpajmpfdaihehaa
