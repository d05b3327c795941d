import Derived.Test.YtpkpidhomidjiaaF3
namespace Go.Proofs.Ytpkpidhomidjiaa
open Go.RowKit
set_option linter.unusedVariables false

/-- Lists of numbers and lists of lists lie in blocks of their own. -/
theorem own_typ {W : World} {b1 b2 : Nat} {a a' : Option Addr} {n n' c c' : Nat} {L L' : List Value} (h : Own W b1 3 a n c L) (h' : Own W b2 35 a' n' c' L') {k : Nat} (hk : Blk a k) (hk' : Blk a' k) : False := by
  rcases h.row.2 with ⟨h1, _⟩ | ⟨g, cp, cur, hv, _, hh, _⟩
  · simp only [Value.slice.injEq] at h1
    obtain ⟨rfl, _⟩ := h1
    obtain ⟨_, e, _⟩ := hk
    cases e
  · rcases h'.row.2 with ⟨h1, _⟩ | ⟨g', cp', cur', hv', _, hh', _⟩
    · simp only [Value.slice.injEq] at h1
      obtain ⟨rfl, _⟩ := h1
      obtain ⟨_, e, _⟩ := hk'
      cases e
    · simp only [Value.slice.injEq] at hv hv'
      obtain ⟨rfl, _⟩ := hv
      obtain ⟨rfl, _⟩ := hv'
      obtain ⟨_, e, rfl⟩ := hk
      obtain ⟨_, e', e2⟩ := hk'
      cases e
      cases e'
      simp only at e2
      subst e2
      rw [hh] at hh'
      simp at hh'
/-- A list as a value. -/
abbrev Sl := Option Addr × Nat × Nat
def slV (x : Sl) : Value := .slice x.1 x.2.1 x.2.2
abbrev Fm (W : World) (K : Nat) (F : Nat → Sl) (L : Nat → List Int) : Prop := Fam W K (fun q => (F q).1) (fun q => (F q).2.1) (fun q => (F q).2.2) L
def upd {α : Type} (f : Nat → α) (i : Nat) (v : α) : Nat → α := fun q => if q = i then v else f q
theorem upd_eq {α : Type} (f : Nat → α) (i : Nat) (v : α) : upd f i v i = v := by simp [upd]
theorem upd_ne {α : Type} {f : Nat → α} {i q : Nat} {v : α} (h : q ≠ i) : upd f i v q = f q := by simp [upd, h]
theorem Fam.add {W W' : World} {K : Nat} {F : Nat → Sl} {L : Nat → List Int} (h : Fm W K F L) (hB : Below W.heap.size W W') {x : Sl} {B : List Int} (hO : Own W' W.heap.size 3 x.1 x.2.1 x.2.2 (ints B)) (hs : x.2.1 ≤ 40) : Fm W' (K + 1) (upd F K x) (upd L K B) := by
  refine ⟨fun q hq => ?_, fun q r hq hr hne k hk hk' => ?_, fun q hq => ?_⟩
  · by_cases e : q = K
    · subst e
      rw [upd_eq, upd_eq]
      exact hO.mono (Nat.zero_le _)
    · rw [upd_ne e, upd_ne e]
      exact (h.own q (by omega)).later hB
  · by_cases e : q = K
    · subst e
      have e2 : r ≠ q := fun e => hne e.symm
      rw [upd_eq] at hk
      rw [upd_ne e2] at hk'
      have := hO.blk k hk
      have := h.lt r (by omega) k hk'
      omega
    · rw [upd_ne e] at hk
      by_cases e2 : r = K
      · subst e2
        rw [upd_eq] at hk'
        have := hO.blk k hk'
        have := h.lt q (by omega) k hk
        omega
      · rw [upd_ne e2] at hk'
        exact h.inj q r (by omega) (by omega) hne k hk hk'
  · by_cases e : q = K
    · subst e
      rw [upd_eq]
      exact hs
    · rw [upd_ne e]
      exact h.small q (by omega)
theorem Fam.sub {W : World} {K M : Nat} {a : Nat → Option Addr} {N C : Nat → Nat} {L : Nat → List Int} (h : Fam W M a N C L) (s : Nat → Nat) (h1 : ∀ q, q < K → s q < M) (h2 : ∀ q r, q ≠ r → s q ≠ s r) : Fam W K (fun q => a (s q)) (fun q => N (s q)) (fun q => C (s q)) (fun q => L (s q)) :=
  ⟨fun q hq => h.own (s q) (h1 q hq), fun q r hq hr hne => h.inj (s q) (s r) (h1 q hq) (h1 r hr) (h2 q r hne), fun q hq => h.small (s q) (h1 q hq)⟩
/-- Where the t-th list that was answered stands. -/
def sg (t : Nat) : Nat := 4 * (t / 2) + t % 2
theorem sg_lt {t k : Nat} (h : t < 2 * k) : sg t < 4 * k ∧ sg t + 2 < 4 * k := by unfold sg; omega
theorem sg_ne {q r : Nat} (h : q ≠ r) : sg q ≠ sg r := by unfold sg; omega
def outer (k d : Nat) (F : Nat → Sl) : List Value := (List.range (2 * k)).map fun t => slV (F (sg t + d))
theorem outer_get {k d : Nat} {F : Nat → Sl} {t : Nat} (h : t < 2 * k) : (outer k d F)[t]? = some (slV (F (sg t + d))) := by simp [outer, h]
theorem outer_one (k d : Nat) (F : Nat → Sl) : ∀ u ∈ outer k d F, u.oneCell' = true := by
  intro u hu
  simp only [outer, List.mem_map] at hu
  obtain ⟨t, _, rfl⟩ := hu
  rfl
theorem outer_next (k d : Nat) (hd : d = 0 ∨ d = 2) (F G : Nat → Sl) (x y : Sl) (h1 : ∀ q, q < 4 * k → G q = F q) (h2 : G (4 * k + d) = x) (h3 : G (4 * k + 1 + d) = y) : outer (k + 1) d G = outer k d F ++ [slV x, slV y] := by
  unfold outer
  rw [show 2 * (k + 1) = 2 * k + 1 + 1 by omega, List.range_succ, List.range_succ, List.map_append, List.map_append, List.append_assoc]
  congr 1
  · refine List.map_congr_left fun t ht => ?_
    have := sg_lt (List.mem_range.1 ht)
    rw [h1]
    rcases hd with rfl | rfl <;> omega
  · have e1 : sg (2 * k) = 4 * k := by unfold sg; omega
    have e2 : sg (2 * k + 1) = 4 * k + 1 := by unfold sg; omega
    simp [e1, e2, h2, h3]
/-- The lists that were answered, and their copies. -/
structure Kp (W : World) (base k : Nat) (aL : Option Addr) (cL : Nat) (aW : Option Addr) (cW : Nat) (F : Nat → Sl) (L : Nat → List Int) : Prop where
  fam : Fm W (4 * k) F L
  ge : ∀ q, q < 4 * k → ∀ x, Blk (F q).1 x → base ≤ x
  ol : Own W base 35 aL (2 * k) cL (outer k 0 F)
  ow : Own W base 35 aW (2 * k) cW (outer k 2 F)
  oo : ∀ x, Blk aL x → ¬ Blk aW x
theorem Kp.later {W W' : World} {base k : Nat} {aL : Option Addr} {cL : Nat} {aW : Option Addr} {cW : Nat} {F : Nat → Sl} {L : Nat → List Int} (hB : Below W.heap.size W W') (h : Kp W base k aL cL aW cW F L) : Kp W' base k aL cL aW cW F L :=
  ⟨h.fam.later hB, h.ge, h.ol.later hB, h.ow.later hB, h.oo⟩
theorem Kp.congr {W : World} {base k : Nat} {aL : Option Addr} {cL : Nat} {aW : Option Addr} {cW : Nat} {F : Nat → Sl} {L M : Nat → List Int} (h : Kp W base k aL cL aW cW F L) (e : ∀ q, q < 4 * k → L q = M q) : Kp W base k aL cL aW cW F M :=
  ⟨h.fam.congr e, h.ge, h.ol, h.ow, h.oo⟩
theorem Row.two (w : World) (x y : Sl) : Row (w.alloc (Obj.cells #[slV x, slV y] 35)) (some ⟨w.heap.size, 0, .none⟩) 2 2 [slV x, slV y] :=
  Row.at (L := [slV x, slV y]) rfl (Nat.le_refl _) (fun u hu => by simp at hu; rcases hu with rfl | rfl <;> rfl) (fun i u hu => by
    have hi : i < 2 := (List.getElem?_eq_some_iff.1 hu).1
    have hm : i = 0 ∨ i = 1 := by omega
    rcases hm with rfl | rfl
    · simp at hu; subst hu; simp [go_sem]
    · simp at hu; subst hu; simp [go_sem])
/-- Two lists are put into a list of lists. -/
theorem push_two {W : World} {base Q : Nat} {F : Nat → Sl} {L : Nat → List Int} {a1 a2 : Option Addr} {n1 c1 n2 c2 : Nat} {V1 V2 : List Value} (hF : Fm W Q F L) (h1 : Own W base 35 a1 n1 c1 V1) (h2 : Own W base 35 a2 n2 c2 V2) (hoo : ∀ z, Blk a1 z → ¬ Blk a2 z) (hb : base ≤ W.heap.size) (hn : n1 ≤ 100) (x y : Sl) :
    ∃ a' c' w', (Builtin.append_ #[39, 39] 39 #[.slice a1 n1 c1, .slice (some ⟨W.heap.size, 0, none⟩) 2 2]).run Try.prog (W.alloc (Obj.cells #[slV x, slV y] 35)) = .ok (.slice a' (n1 + 2) c') w' ∧
      Fm w' Q F L ∧ Own w' base 35 a' (n1 + 2) c' (V1 ++ [slV x, slV y]) ∧ Own w' base 35 a2 n2 c2 V2 ∧ (∀ z, Blk a' z → ¬ Blk a2 z) ∧ But (fun z => base ≤ z) W w' := by
  obtain ⟨a', c', w', hrun, hO, hG⟩ := append_gen 39 35 _ 24 Try.underlying39 info35 rfl (h1.alloc (Obj.cells #[slV x, slV y] 35)) (Row.two W x y) (by simp; omega) (by omega) (by omega)
  have hA := below1 W (Obj.cells #[slV x, slV y] 35)
  refine ⟨a', c', w', hrun, (hF.later hA).but hG.but (fun q hq z hz hz' => own_typ (hF.own q hq) h1 hz hz'), hO, (h2.later hA).but hG.but (fun z hz hz' => hoo z hz' hz), fun z hz hz' => ?_, (But.of hA).comp hG.but (fun z hz => .inl (h1.blk z hz))⟩
  rcases hG.on z hz with e | e
  · exact hoo z e hz'
  · have := h2.lt z hz'
    simp at e
    omega
/-- The first half of a round: two lists are answered and put into the list. -/
structure Half (W : World) (base k : Nat) (aL : Option Addr) (cL : Nat) (aW : Option Addr) (cW : Nat) (F : Nat → Sl) (L : Nat → List Int) : Prop where
  fam : Fm W (4 * k + 2) F L
  ge : ∀ q, q < 4 * k + 2 → ∀ x, Blk (F q).1 x → base ≤ x
  ol : Own W base 35 aL (2 * k + 2) cL (outer k 0 F ++ [slV (F (4 * k)), slV (F (4 * k + 1))])
  ow : Own W base 35 aW (2 * k) cW (outer k 2 F)
  oo : ∀ x, Blk aL x → ¬ Blk aW x
theorem outer_congr {k d : Nat} {F G : Nat → Sl} (hd : d = 0 ∨ d = 2) (h : ∀ q, q < 4 * k → G q = F q) : outer k d G = outer k d F := by
  unfold outer
  refine List.map_congr_left fun t ht => ?_
  have := sg_lt (List.mem_range.1 ht)
  rw [h]
  rcases hd with rfl | rfl <;> omega
theorem Kp.half {W w3 w4 : World} {base k : Nat} {aL : Option Addr} {cL : Nat} {aW : Option Addr} {cW : Nat} {F : Nat → Sl} {L : Nat → List Int} (h : Kp W base k aL cL aW cW F L) (hb : base ≤ W.heap.size) (hk : k ≤ 20) (h3 : Below W.heap.size W w3) (h4 : Below w3.heap.size w3 w4) (x y : Sl) {B : List Int}
    (hx : Own w3 W.heap.size 3 x.1 x.2.1 x.2.2 (ints B)) (hy : Own w4 w3.heap.size 3 y.1 y.2.1 y.2.2 (ints B)) (hs : B.length ≤ 40) :
    ∃ aL' cL' w5, (Builtin.append_ #[39, 39] 39 #[.slice aL (2 * k) cL, .slice (some ⟨w4.heap.size, 0, none⟩) 2 2]).run Try.prog (w4.alloc (Obj.cells #[slV x, slV y] 35)) = .ok (.slice aL' (2 * k + 2) cL') w5 ∧
      Half w5 base k aL' cL' aW cW (upd (upd F (4 * k) x) (4 * k + 1) y) (upd (upd L (4 * k) B) (4 * k + 1) B) ∧ But (fun z => base ≤ z) w4 w5 ∧ Row w5 x.1 x.2.1 x.2.2 (ints B) ∧ Row w5 y.1 y.2.1 y.2.2 (ints B) := by
  have lx := hx.len
  have ly := hy.len
  rw [ints_length] at lx ly
  have f3 := Fam.add h.fam h3 hx (by omega)
  have f4 := Fam.add f3 h4 hy (by omega)
  have hB := below_call h3 h4
  obtain ⟨aL', cL', w5, hrun, k1, k2, k3, k4, k5⟩ := push_two f4 (h.ol.later hB) (h.ow.later hB) h.oo (by have := hB.size; omega) (by omega) x y
  have hG : ∀ q, q < 4 * k → upd (upd F (4 * k) x) (4 * k + 1) y q = F q := fun q hq => by rw [upd_ne (by omega), upd_ne (by omega)]
  have g0 : upd (upd F (4 * k) x) (4 * k + 1) y (4 * k) = x := by rw [upd_ne (by omega), upd_eq]
  have g1 : upd (upd F (4 * k) x) (4 * k + 1) y (4 * k + 1) = y := upd_eq _ _ _
  have l0 : upd (upd L (4 * k) B) (4 * k + 1) B (4 * k) = B := by rw [upd_ne (by omega), upd_eq]
  have l1 : upd (upd L (4 * k) B) (4 * k + 1) B (4 * k + 1) = B := upd_eq _ _ _
  have r0 := (k1.own (4 * k) (by omega)).read
  have r1 := (k1.own (4 * k + 1) (by omega)).read
  rw [g0, l0] at r0
  rw [g1, l1] at r1
  refine ⟨aL', cL', w5, hrun, ⟨k1, fun q hq z hz => ?_, by rw [g0, g1, outer_congr (.inl rfl) hG]; exact k2, by rw [outer_congr (.inr rfl) hG]; exact k3, k4⟩, k5, r0, r1⟩
  have hq3 : q < 4 * k ∨ q = 4 * k ∨ q = 4 * k + 1 := by omega
  rcases hq3 with hq3 | rfl | rfl
  · rw [hG q hq3] at hz
    exact h.ge q hq3 z hz
  · rw [g0] at hz
    have := hx.blk z hz
    omega
  · rw [g1] at hz
    have := hy.blk z hz
    have := h3.size
    omega
theorem Half.full {W w3 w4 : World} {base k : Nat} {aL : Option Addr} {cL : Nat} {aW : Option Addr} {cW : Nat} {F : Nat → Sl} {L : Nat → List Int} (h : Half W base k aL cL aW cW F L) (hb : base ≤ W.heap.size) (hk : k ≤ 20) (h3 : Below W.heap.size W w3) (h4 : Below w3.heap.size w3 w4) (x y : Sl) {B : List Int}
    (hx : Own w3 W.heap.size 3 x.1 x.2.1 x.2.2 (ints B)) (hy : Own w4 w3.heap.size 3 y.1 y.2.1 y.2.2 (ints B)) (hs : B.length ≤ 40) :
    ∃ aW' cW' w5, (Builtin.append_ #[39, 39] 39 #[.slice aW (2 * k) cW, .slice (some ⟨w4.heap.size, 0, none⟩) 2 2]).run Try.prog (w4.alloc (Obj.cells #[slV x, slV y] 35)) = .ok (.slice aW' (2 * k + 2) cW') w5 ∧
      Kp w5 base (k + 1) aL cL aW' cW' (upd (upd F (4 * k + 2) x) (4 * k + 3) y) (upd (upd L (4 * k + 2) B) (4 * k + 3) B) ∧ But (fun z => base ≤ z) w4 w5 := by
  have lx := hx.len
  have ly := hy.len
  rw [ints_length] at lx ly
  have f3 := Fam.add h.fam h3 hx (by omega)
  have f4 := Fam.add f3 h4 hy (by omega)
  have hB := below_call h3 h4
  obtain ⟨aW', cW', w5, hrun, k1, k2, k3, k4, k5⟩ := push_two f4 (h.ow.later hB) (h.ol.later hB) (fun z hz hz' => h.oo z hz' hz) (by have := hB.size; omega) (by omega) x y
  have hG : ∀ q, q < 4 * k + 2 → upd (upd F (4 * k + 2) x) (4 * k + 3) y q = F q := fun q hq => by rw [upd_ne (by omega), upd_ne (by omega)]
  have g0 : upd (upd F (4 * k + 2) x) (4 * k + 3) y (4 * k + 2) = x := by rw [upd_ne (by omega), upd_eq]
  have g1 : upd (upd F (4 * k + 2) x) (4 * k + 3) y (4 * k + 3) = y := upd_eq _ _ _
  have e4 : 4 * (k + 1) = 4 * k + 2 + 1 + 1 := by omega
  have e2 : 2 * (k + 1) = 2 * k + 2 := by omega
  refine ⟨aW', cW', w5, hrun, ⟨by rw [e4]; exact k1, fun q hq z hz => ?_, ?_, ?_, fun z hz hz' => k4 z hz' hz⟩, k5⟩
  · have hq3 : q < 4 * k + 2 ∨ q = 4 * k + 2 ∨ q = 4 * k + 3 := by omega
    rcases hq3 with hq3 | rfl | rfl
    · rw [hG q hq3] at hz
      exact h.ge q hq3 z hz
    · rw [g0] at hz
      have := hx.blk z hz
      omega
    · rw [g1] at hz
      have := hy.blk z hz
      have := h3.size
      omega
  · rw [e2, outer_next k 0 (.inl rfl) F _ (F (4 * k)) (F (4 * k + 1)) (fun q hq => hG q (by omega)) (hG _ (by omega)) (hG _ (by omega))]
    exact k3
  · rw [e2, outer_next k 2 (.inr rfl) F _ x y (fun q hq => hG q (by omega)) g0 g1]
    exact k2
theorem Kp.start (W : World) (base : Nat) (F : Nat → Sl) (L : Nat → List Int) : Kp W base 0 none 0 none 0 F L :=
  ⟨⟨fun q hq => by omega, fun q r hq => by omega, fun q hq => by omega⟩, fun q hq => by omega, Own.nil _ _ _, Own.nil _ _ _, fun x hx => by obtain ⟨_, e, _⟩ := hx; cases e⟩
/-- The number of nodes by its rest. -/
theorem rest30 (x : Int) : ∃ m : Nat, 2 ≤ m ∧ m ≤ 31 ∧ 2 + x.tmod 30 % 30 = (m : Int) ∧ -30 < x.tmod 30 ∧ x.tmod 30 < 30 := by
  have t1 : -30 < x.tmod 30 := Int.lt_tmod_of_pos x (by omega)
  have t2 : x.tmod 30 < 30 := Int.tmod_lt_of_pos x (by omega)
  exact ⟨(2 + x.tmod 30 % 30).toNat, by omega, by omega, by omega, t1, t2⟩
end Go.Proofs.Ytpkpidhomidjiaa
