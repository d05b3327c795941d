import Derived.Test.YtfcfacchppkmdaaD3
namespace Go.Proofs.Ytfcfacchppkmdaa
open Go.RowKit
set_option linter.unusedVariables false
set_option linter.unusedSimpArgs false

theorem lst_all (n : Nat) : lst n (fun _ => false) false = List.range n := by
  unfold lst
  exact List.filter_eq_self.2 (fun _ _ => rfl)
theorem take_range (n K : Nat) (h : K ≤ n) : (List.range n).take K = List.range K := by
  rw [List.take_range, Nat.min_eq_left h]
theorem tk_range (K : Nat) : tk (fun _ => false) (List.range K) = fun i => decide (i < K) := by
  funext i
  simp [tk]
theorem lst_sum (n : Nat) (t : Nat → Bool) : (lst n t true).length + (lst n t false).length = n := by
  induction n with
  | zero => rfl
  | succ n ih =>
    rw [lst_succ, lst_succ, List.length_append, List.length_append]
    cases t n <;> simp <;> omega
theorem lst_lt (n K : Nat) (h : K ≤ n) : (lst n (fun i => decide (i < K)) true).length = K := by
  induction n with
  | zero => simp [lst]; omega
  | succ n ih =>
    rw [lst_succ, List.length_append]
    by_cases e : K ≤ n
    · rw [ih e]
      simp; omega
    · obtain rfl : K = n + 1 := by omega
      have : lst n (fun i => decide (i < n + 1)) true = List.range n := by
        unfold lst
        exact List.filter_eq_self.2 (fun i hi => by have := List.mem_range.1 hi; simp; omega)
      rw [this]
      simp
theorem nodup_len : ∀ (K : Nat) (G : List Nat), G.Nodup → (∀ x ∈ G, x < K) → G.length ≤ K
  | 0, G, _, h => by
    cases G with
    | nil => simp
    | cons a G => have := h a (by simp); omega
  | K + 1, G, hn, h => by
    by_cases hk : K ∈ G
    · have := nodup_len K (G.erase K) (hn.erase K) (fun x hx => by
        have h1 := h x (List.mem_of_mem_erase hx)
        have h2 : x ≠ K := fun e => by
          rw [e] at hx
          exact (hn.not_mem_erase hx)
        omega)
      rw [List.length_erase_of_mem hk] at this
      omega
    · have := nodup_len K G hn (fun x hx => by
        have h1 := h x hx
        have h2 : x ≠ K := fun e => hk (e ▸ hx)
        omega)
      omega
theorem wpAnyH_norm {P : Program} {md : Region.Mode} {ops : Array Oper} {Q : Exit → Act → World → Prop} {S : World → Prop} {fuel f2 : Nat} {listed l2 : Array Bool} {a : Act} {w : World} (hl : listed = l2) (hf : fuel = f2) (h : wpAnyH P md ops Q S f2 l2 a w) : wpAnyH P md ops Q S fuel listed a w := by
  subst hl hf
  exact h
/-- What page p is filled with. -/
def xb (x : Int) (p : Nat) : Nat := (bits .xor .u8 x (p : Int)).toNat
theorem xb_spec (x : Int) (p : Nat) : bits .xor .u8 x (p : Int) = ((xb x p : Nat) : Int) ∧ xb x p < 256 := by
  have h : 0 ≤ bits .xor .u8 x (p : Int) ∧ bits .xor .u8 x (p : Int) < 256 := by
    unfold bits
    simp only [IntKind.wrap_u8]
    omega
  unfold xb
  omega
def Bz (x : Int) (i : Nat) : Nat → Nat → Nat := fun p _ => if p < i then xb x p else 0
theorem Bz_write (x : Int) (i p q : Nat) (hq : q < 64) : Bz x (i + 1) p q = wrB (Bz x i) i 0 (fl (fun _ => xb x i) 64) p q := by
  unfold wrB
  rw [fl_length]
  by_cases e : p = i
  · subst e
    rw [if_pos ⟨rfl, by omega, by omega⟩]
    simp [Bz, fl, List.getD_eq_getElem?_getD, hq]
  · rw [if_neg (fun h => e h.1)]
    unfold Bz
    by_cases e2 : p < i
    · rw [if_pos e2, if_pos (by omega)]
    · rw [if_neg e2, if_neg (by omega)]
def ZRel1 (w7 : World) (g pb n : Nat) (t1 : Nat → Bool) (x : Int) (K db : Nat) (v : Value) (w' : World) : Prop :=
  ∃ (i : Nat) (f : Nat → Nat), v = .int .i64 (i : Int) ∧ i ≤ K ∧ Arn w' g pb n t1 (Bz x i) ∧ Cel w' db 64 f ∧ But (fun k => k = pb ∨ k = db) w7 w'
def ZRel2 (wr : World) (f : Nat → Nat) (y db : Nat) (v : Value) (w' : World) : Prop :=
  ∃ j : Nat, v = .int .i64 (j : Int) ∧ j ≤ 64 ∧ Cel w' db 64 (fun q => if q < j then y else f q) ∧ But (· = db) wr w'
theorem give_ok (g pb n : Nat) (t : Nat → Bool) (B : Nat → Nat → Nat) (a : Option Addr) (m cap : Nat) (l : List Int) (w : World) (h : Arn w g pb n t B) (hR : Row w a m cap (ints l)) (hm63 : m < 9223372036854775807) (hap : ∀ k, Blk a k → k ≠ pb) (hok : gOk n t l) :
    Calls Try.prog 13 #[.pointer (some ⟨g, 0, none⟩), .slice a m cap] w fun e w' => e = .returned (.int .i64 0) ∧ Arn w' g pb n (gT t l) (gB B l) ∧ But (fun k => k = g ∨ k = pb) w w' := by
  refine (give_any g pb n t B a m cap l w h hR hm63 hap).mono ?_
  rintro e w' (⟨_, h1, h2, h3⟩ | ⟨h0, _⟩)
  · exact ⟨h1, h2, h3⟩
  · exact absurd hok h0
theorem give_no (g pb n : Nat) (t : Nat → Bool) (B : Nat → Nat → Nat) (a : Option Addr) (m cap : Nat) (l : List Int) (w : World) (h : Arn w g pb n t B) (hR : Row w a m cap (ints l)) (hm63 : m < 9223372036854775807) (hap : ∀ k, Blk a k → k ≠ pb) (hok : ¬ gOk n t l) :
    Calls Try.prog 13 #[.pointer (some ⟨g, 0, none⟩), .slice a m cap] w fun e w' => e = .returned (.int .i64 20) ∧ Below w.heap.size w w' := by
  refine (give_any g pb n t B a m cap l w h hR hm63 hap).mono ?_
  rintro e w' (⟨h0, _⟩ | ⟨_, h1, h2⟩)
  · exact absurd h0 hok
  · exact ⟨h1, h2⟩
def t3 (K : Nat) (G : List Nat) : Nat → Bool := fun p => decide (p < K) && !decide (p ∈ G)
def B3 (x : Int) (K : Nat) (G : List Nat) : Nat → Nat → Nat := fun p _ => if p < K ∧ ¬ p ∈ G then xb x p else 0
theorem t3_give (K : Nat) (G : List Nat) (r : Nat) : gT (t3 K G) [(r : Int)] = t3 K (G ++ [r]) := by
  funext p
  simp only [gT, t3, List.mem_singleton, List.mem_append]
  by_cases e : p = r
  · simp [e]
  · have : ¬ (p : Int) = (r : Int) := by omega
    simp [e, this]
theorem B3_give (x : Int) (K : Nat) (G : List Nat) (r : Nat) : gB (B3 x K G) [(r : Int)] = B3 x K (G ++ [r]) := by
  funext p j
  simp only [gB, B3, List.mem_singleton, List.mem_append]
  by_cases e : p = r
  · simp [e]
  · have : ¬ (p : Int) = (r : Int) := by omega
    simp [e, this]
theorem gOk_one {n K : Nat} {G : List Nat} {r : Nat} (hr : r < K) (hK : K ≤ n) : gOk n (t3 K G) [(r : Int)] ↔ ¬ r ∈ G := by
  unfold gOk
  simp only [List.mem_singleton, forall_eq, Int.toNat_natCast, t3, thr]
  constructor
  · rintro ⟨⟨_, h⟩, _⟩
    simp only [Bool.and_eq_true, Bool.not_eq_true', decide_eq_false_iff_not] at h
    exact h.2
  · intro h
    refine ⟨⟨decide_eq_true (by omega), ?_⟩, by simp⟩
    simp [h, hr]
def ZRel3 (wb : World) (g pb n : Nat) (x : Int) (K m : Nat) (s v : Value) (w' : World) : Prop :=
  ∃ (i : Nat) (G : List Nat) (ga : Option Addr) (gc : Nat), s = .slice ga G.length gc ∧ v = .int .i64 (i : Int) ∧ i ≤ m ∧ G.Nodup ∧ (∀ p ∈ G, p < K) ∧ Arn w' g pb n (t3 K G) (B3 x K G) ∧ Own w' wb.heap.size 3 ga G.length gc (ints (nats G)) ∧ But (fun k => k = g ∨ k = pb) wb w'
theorem len_of {w : World} {base : Nat} {e : TypeId} {a : Option Addr} {m cap k : Nat} {L : List Nat} (h : Own w base e a m cap (ints (nats L))) (hk : L.length = k) : k = m := by
  have := h.len
  rw [ints_length, nats_length] at this
  omega
theorem make_any : ∃ mkW : World → World, (∀ W, (Instr.makeSlice 33 (.int .i64 64) (.int .i64 64)).run Try.prog W = .ok (.slice (some ⟨W.heap.size, 0, none⟩) 64 64) (mkW W)) ∧ (∀ W, Below W.heap.size W (mkW W)) ∧
    ∀ W, (convert 33 9 (.slice (some ⟨W.heap.size, 0, none⟩) 64 64)).run Try.prog (mkW W) = .ok (.string (strB (fl (fun _ => 0) 64))) (mkW W) := by
  have h : ∀ W : World, ∃ w', (Instr.makeSlice 33 (.int .i64 64) (.int .i64 64)).run Try.prog W = .ok (.slice (some ⟨W.heap.size, 0, none⟩) 64 64) w' ∧ Below W.heap.size W w' ∧ (convert 33 9 (.slice (some ⟨W.heap.size, 0, none⟩) 64 64)).run Try.prog w' = .ok (.string (strB (fl (fun _ => 0) 64))) w' := fun W => by
    obtain ⟨w', h1, h2, _, h3⟩ := make_bytes W 64 (by omega)
    refine ⟨w', h1, h3, (h2.row (n := 64) (cap := 64) (Nat.le_refl _) (Nat.le_refl _)).conv (fun x hx => ?_)⟩
    simp only [fl, List.mem_map] at hx
    obtain ⟨_, _, rfl⟩ := hx
    omega
  exact ⟨fun W => (h W).choose, fun W => (h W).choose_spec.1, fun W => (h W).choose_spec.2.1, fun W => (h W).choose_spec.2.2⟩
theorem keep_mk {C : Prop} {w0 W : World} {mkW : World → World} (hb : ∀ W, Below W.heap.size W (mkW W)) (hS : C ∧ Below w0.heap.size w0 W) : Below w0.heap.size w0 (mkW W) := below_call hS.2 (hb W)
theorem lst_rise {n : Nat} {t : Nat → Bool} {b : Bool} {i : Nat} (h : i + 1 < (lst n t b).length) : (lst n t b)[i] < (lst n t b)[i + 1] := by
  have hp : (lst n t b).Pairwise (· < ·) := List.Pairwise.filter _ List.pairwise_lt_range
  exact List.pairwise_iff_getElem.1 hp i (i + 1) (by omega) h (by omega)
theorem pgL_zeros {B : Nat → Nat → Nat} {p : Nat} (h : ∀ j, B p j = 0) : pgL B p 0 64 = fl (fun _ => 0) 64 := by
  unfold pgL fl
  exact List.map_congr_left fun j _ => h _
theorem t3_false {K : Nat} {G : List Nat} {p : Nat} (h : t3 K G p = false) (x : Int) (j : Nat) : B3 x K G p j = 0 := by
  unfold B3
  rw [if_neg]
  rintro ⟨h1, h2⟩
  simp [t3, h1, h2] at h
theorem read_some (g pb n : Nat) (t : Nat → Bool) (B : Nat → Nat → Nat) (p : Nat) (w : World) (h : Arn w g pb n t B) :
    Calls Try.prog 15 #[.pointer (some ⟨g, 0, none⟩), .int .i64 (p : Int), .int .i64 ((0 : Nat) : Int), .int .i64 ((64 : Nat) : Int)] w fun e w' => ∃ v c, e = .returned (.tuple #[v, .int .i64 c]) ∧ Below w.heap.size w w' := by
  by_cases ht : t p = true
  · refine (read_ok g pb n t B p 0 64 w h ht (by omega)).mono ?_
    rintro e w' ⟨a, rfl, _, hb⟩
    exact ⟨_, _, rfl, hb⟩
  · refine (read_bad g pb n t B (p : Int) ((0 : Nat) : Int) ((64 : Nat) : Int) w h (by omega) 20 (by unfold lookE; rw [if_neg (fun e => ht (by simpa using e.2))]) (by omega)).mono ?_
    rintro e w' ⟨rfl, rfl⟩
    exact ⟨_, _, rfl, Below.refl _ _⟩
def ZRel6 (G : List Nat) (i5 : Nat) (wq : World) (s v : Value) (w' : World) : Prop :=
  ∃ (j k : Nat), s = .bool (decide (¬ i5 ∈ G.take j)) ∧ v = .int .i64 (j : Int) ∧ j ≤ G.length ∧ w' = wq.drewN k
theorem take_mem_next {G : List Nat} {i5 j : Nat} (hj : j < G.length) : (¬ i5 ∈ G.take (j + 1)) ↔ (¬ i5 ∈ G.take j) ∧ ¬ G[j] = i5 := by
  rw [List.take_add_one, List.getElem?_eq_getElem hj]
  simp only [Option.toList_some, List.mem_append, List.mem_singleton, not_or]
  exact ⟨fun h => ⟨h.1, fun e => h.2 e.symm⟩, fun h => ⟨h.1, fun e => h.2 e.symm⟩⟩
end Go.Proofs.Ytfcfacchppkmdaa
