import Derived.Test.YtffmodpgddecnaaZ05
import Derived.Test.YtffmodpgddecnaaZ08
import Derived.Test.YtffmodpgddecnaaZ27
import Derived.Test.YtffmodpgddecnaaZ25
import Derived.Test.YtffmodpgddecnaaZ26
import Derived.Test.YtffmodpgddecnaaZ12
namespace Go.Proofs.Ytffmodpgddecnaa.V.E
open Go.RowKit Go.Maps
open Go.Proofs.Ytffmodpgddecnaa.H (B64 Cp)
set_option linter.unusedVariables false
set_option linter.unusedSimpArgs false
structure CO (w : World) (base : Nat) (c : R.Cl) (dd gg : R.Sl) : Prop where
  d : Own w base 5 dd.a dd.n dd.c (S.u8s c.data)
  g : Own w base 3 gg.a gg.n gg.c (ints c.gifts)
  sm : ∀ x ∈ c.data, x < 256
  hi : c.hi < 18446744073709551616
  lo : c.lo < 18446744073709551616
  ap : ∀ j, Blk dd.a j → ¬ Blk gg.a j
section
variable {w w' : World} {c : R.Cl} {dd gg : R.Sl} {base : Nat}
theorem CO.is (h : CO w base c dd gg) : R.Is w c dd gg := by
  have hr := h.g.read
  exact ⟨R_row h.d.read h.sm, ⟨by have := hr.len; unfold ints at this; rwa [List.length_map] at this, hr.cap_, hr.none_, hr.cells⟩, h.hi, h.lo⟩
theorem CO.but {S : Nat → Prop} (h : CO w base c dd gg) (hb : But S w w') (hn : ∀ j, Blk dd.a j ∨ Blk gg.a j → ¬ S j) : CO w' base c dd gg :=
  ⟨Own.but hb h.d (fun j hj => hn j (.inl hj)), Own.but hb h.g (fun j hj => hn j (.inr hj)), h.sm, h.hi, h.lo, h.ap⟩
theorem CO.mono {b : Nat} (h : CO w base c dd gg) (hb : b ≤ base) : CO w b c dd gg := ⟨h.d.mono hb, h.g.mono hb, h.sm, h.hi, h.lo, h.ap⟩
theorem CO.rng (h : CO w base c dd gg) (j : Nat) (hj : Blk dd.a j ∨ Blk gg.a j) : base ≤ j ∧ j < w.heap.size := by
  rcases hj with hj | hj
  · exact ⟨h.d.blk j hj, h.d.lt j hj⟩
  · exact ⟨h.g.blk j hj, h.g.lt j hj⟩
end
section
variable {w w' : World} {c : R.Cl} {dd gg : R.Sl}
set_option maxRecDepth 100000 in
set_option maxHeartbeats 2000000 in
theorem copied_own (h : R.Is w c dd gg) (hb1 : dd.n ≤ 140737488355328) (hb2 : gg.n * 8 ≤ 140737488355328) :
    Calls Try.prog 11 #[.agg (R.cC c dd gg).toArray] w fun e w' => ∃ d' g', e = .returned (.agg (R.cC c d' g').toArray) ∧ CO w' w.heap.size c d' g' ∧ Below w.heap.size w w' := by
  obtain ⟨W, hW⟩ : ∃ W, W = (w.alloc (Obj.cells (R.cC c dd gg).toArray 47)).alloc (Obj.cells z13.toArray 47) := ⟨_, rfl⟩
  have HB : Hid (Below w.heap.size w W) := by rw [hW]; exact below2 _ _ _
  have HWs : Hid (W.heap.size = w.heap.size + 2) := by unfold Hid; rw [hW]; simp
  have hX : R.Bx W w.heap.size (R.cC c dd gg) := by rw [hW]; exact R.Bx.later (below1 _ _) (R.Bx.new w _ _)
  have hZ : R.Bx W (w.heap.size + 1) z13 := by
    rw [hW]
    have := R.Bx.new (w.alloc (Obj.cells (R.cC c dd gg).toArray 47)) z13 47
    rwa [World.size_alloc] at this
  have h2 := h.later HB.out
  have hr1 : Row W dd.a dd.n dd.c (S.u8s c.data) := ⟨by rw [S.u8s_length]; exact h2.data.len, h2.data.cap_, h2.data.none_, h2.data.cells, S.u8s_one _⟩
  have hr2 : Row W gg.a gg.n gg.c (ints c.gifts) := ⟨by unfold ints; rw [List.length_map]; exact h2.gifts.len, h2.gifts.cap_, h2.gifts.none_, h2.gifts.cells, by unfold ints; intro u hu; obtain ⟨x, _, rfl⟩ := List.mem_map.1 hu; rfl⟩
  have hB1 := below1 W (Obj.cells #[] 5)
  have hO1 := own_empty W 5
  obtain ⟨a1, c1, W2, hrun1, hO2, hG1⟩ := S.append_bytes hO1 (hr1.later hB1) hB1.size (by omega)
  rw [Nat.zero_add] at hrun1 hO2
  rw [List.nil_append] at hO2
  have hB2 : Below W.heap.size W W2 := But.below hB1 hG1.but (fun k hk => hO1.blk k hk)
  have hX2 := R.Bx.later hB2 hX
  have xD : W2.cell? ⟨w.heap.size, 10, none⟩ = some dd.v := hX2.cell 10 rfl
  have xF : W2.frozen? ⟨w.heap.size, 10, none⟩ = false := (hX2.there 10 (by simp [R.cC])).2
  have x10 : (W.alloc (Obj.cells #[] 5)).cell? ⟨w.heap.size, 10, none⟩ = some dd.v := (R.Bx.later hB1 hX).cell 10 rfl
  obtain ⟨W3, hW3⟩ : ∃ W3, W3 = W2.setCell ⟨w.heap.size, 10, none⟩ (.slice a1 dd.n c1) := ⟨_, rfl⟩
  have hX3 : R.Bx W3 w.heap.size (R.cC c ⟨a1, dd.n, c1⟩ gg) := by rw [hW3]; exact Bx.put hX2 10 (by simp [R.cC]) (.slice a1 dd.n c1)
  have hB3 : Below w.heap.size w W3 := by rw [hW3]; exact But.below (below_call HB.out hB2) (But.own (g := w.heap.size) (But.refl _ _) 10 _) (fun k e => by omega)
  have hS3 : W3.heap.size = W2.heap.size := by rw [hW3]; simp
  have hW2s := hB2.size
  have hO3 : Own W3 W.heap.size 5 a1 dd.n c1 (S.u8s c.data) := by rw [hW3]; exact Own.but (S := (· = w.heap.size)) (But.own (But.refl _ _) 10 _) hO2 (fun k hk e => by have := hO2.blk k hk; have := HWs.out; omega)
  have hB4 := below1 W3 (Obj.cells #[] 3)
  have hO4 := own_empty W3 3
  have hr3 : Row w gg.a gg.n gg.c (ints c.gifts) := ⟨by unfold ints; rw [List.length_map]; exact h.gifts.len, h.gifts.cap_, h.gifts.none_, h.gifts.cells, by unfold ints; intro u hu; obtain ⟨x, _, rfl⟩ := List.mem_map.1 hu; rfl⟩
  obtain ⟨a2, c2, W5, hrun2, hO5, hG2⟩ := append_ints hO4 ((hr3.later hB3).later hB4) hB4.size (by omega)
  rw [Nat.zero_add] at hrun2 hO5
  rw [List.nil_append] at hO5
  have hB5 : Below W3.heap.size W3 W5 := But.below hB4 hG2.but (fun k hk => hO4.blk k hk)
  have hX5 := R.Bx.later hB5 hX3
  have yD : W5.cell? ⟨w.heap.size, 12, none⟩ = some gg.v := hX5.cell 12 rfl
  have yF : W5.frozen? ⟨w.heap.size, 12, none⟩ = false := (hX5.there 12 (by simp [R.cC])).2
  have y12 : (W3.alloc (Obj.cells #[] 3)).cell? ⟨w.heap.size, 12, none⟩ = some gg.v := (R.Bx.later hB4 hX3).cell 12 rfl
  obtain ⟨W6, hW6⟩ : ∃ W6, W6 = W5.setCell ⟨w.heap.size, 12, none⟩ (.slice a2 gg.n c2) := ⟨_, rfl⟩
  have hX6 : R.Bx W6 w.heap.size (R.cC c ⟨a1, dd.n, c1⟩ ⟨a2, gg.n, c2⟩) := by rw [hW6]; exact Bx.put hX5 12 (by simp [R.cC]) (.slice a2 gg.n c2)
  have b6 : But (· = w.heap.size) W5 W6 := by rw [hW6]; exact But.own (But.refl _ _) 12 _
  have b3 : But (· = w.heap.size) W2 W3 := by rw [hW3]; exact But.own (But.refl _ _) 10 _
  have hZ6 : R.Bx W6 (w.heap.size + 1) z13 := R.Bx.but b6 (R.Bx.later hB5 (R.Bx.but b3 (R.Bx.later hB2 hZ) (by omega))) (by omega)
  have HLd := hid (ldC hX6)
  have HS9 := hid (Bx.st45 hZ6 rfl c ⟨a1, dd.n, c1⟩ ⟨a2, gg.n, c2⟩)
  obtain ⟨W7, hW7⟩ : ∃ W7, W7 = W6.setCells (w.heap.size + 1) 0 (R.cC c ⟨a1, dd.n, c1⟩ ⟨a2, gg.n, c2⟩) := ⟨_, rfl⟩
  have b7 : But (· = w.heap.size + 1) W6 W7 := by rw [hW7]; exact R.setCells_but (S := (· = w.heap.size + 1)) rfl _ 0 (But.refl _ _)
  have hX7 : R.Bx W7 (w.heap.size + 1) (R.cC c ⟨a1, dd.n, c1⟩ ⟨a2, gg.n, c2⟩) := by rw [hW7]; exact R.Bx.set hZ6 rfl
  have HL9 : Hid ((loadVar 47 ⟨w.heap.size + 1, 0, none⟩).run Try.prog W7 = .ok (.agg (R.cC c ⟨a1, dd.n, c1⟩ ⟨a2, gg.n, c2⟩).toArray) W7) := R.lv41 hX7.range (by rfl)
  rw [← hW7] at HS9
  have s5 := hB5.size
  have hO7 : Own W7 W.heap.size 5 a1 dd.n c1 (S.u8s c.data) := Own.but b7 (Own.but b6 (hO3.later hB5) (fun k hk e => by have := hO2.blk k hk; have := HWs.out; omega)) (fun k hk e => by have := hO2.blk k hk; have := HWs.out; omega)
  have hP7 : Own W7 W3.heap.size 3 a2 gg.n c2 (ints c.gifts) := Own.but b7 (Own.but b6 hO5 (fun k hk e => by have := hO5.blk k hk; have := HWs.out; omega)) (fun k hk e => by have := hO5.blk k hk; have := HWs.out; omega)
  have HMn : Hid (CO W7 w.heap.size c ⟨a1, dd.n, c1⟩ ⟨a2, gg.n, c2⟩) := by
    refine ⟨hO7.mono (by have := HWs.out; omega), hP7.mono (by have := HWs.out; omega), h.data.small, h.hi, h.lo, fun j h1 h2 => ?_⟩
    have e1 := hO2.lt j h1
    have e2 := hP7.blk j h2
    omega
  have HB7 : Hid (Below w.heap.size w W7) := But.below (But.below (below_call hB3 hB5) b6 (fun k e => by omega)) b7 (fun k e => by omega)
  have HW := hid hW
  have HW3 := hid hW3
  have HW6 := hid hW6
  have HR1 := hid hrun1
  have HR2 := hid hrun2
  clear h h2 hr1 hr2 hr3 hX hZ hB1 hO1 hO2 hG1 hB2 hX2 hX3 hB3 hS3 hW2s hO3 hB4 hO4 hO5 hG2 hB5 hX5 hX6 b6 b3 hZ6 hW7 b7 hX7 s5 hO7 hP7 hW hW3 hW6 hrun1 hrun2 hb1 hb2
  go_enter Try.func11, Try.ntmps11
  go_upto_region 1 with fail
  have hW := HW.out
  rw [← hW]
  clear hW
  go_upto_region 2 with (first | (at_builtin; refine wpList_append_known rfl _ _ 41 rfl _ _ rfl rfl _ W2 HR1.out ?_))
  rw [← HW3.out]
  clear x10 xD xF
  go_upto_region 3 with (first | (at_builtin; refine wpList_append_known rfl _ _ 45 rfl _ _ rfl rfl _ W5 HR2.out ?_))
  rw [← HW6.out]
  clear y12 yD yF
  go_wp2_with (first | ((with_reducible refine R.ld_arm HLd.out ?_ ?_); (· rfl)) | ((with_reducible refine st_arm HS9.out ?_ ?_ ?_); (· rfl); (· rfl)))
  exact bodyPost_ret (v := .agg (R.cC c ⟨a1, dd.n, c1⟩ ⟨a2, gg.n, c2⟩).toArray) (by simp [results, Try.results11, asAddr, Act.put, HL9.out]) rfl ⟨⟨a1, dd.n, c1⟩, ⟨a2, gg.n, c2⟩, rfl, HMn.out, HB7.out⟩
end
structure Kd (α : Type) where
  cel : α → List Value
  own : World → Nat → α → Prop
  blk : α → Nat → Prop
structure KdOk {α : Type} (K : Kd α) (k : Nat) : Prop where
  len : ∀ x, (K.cel x).length = k
  one : ∀ x, ∀ u ∈ K.cel x, u.oneCell' = true
  but : ∀ {S : Nat → Prop} {w w' : World} {base : Nat} {x : α}, K.own w base x → But S w w' → (∀ j, K.blk x j → ¬ S j) → K.own w' base x
  mono : ∀ {w : World} {base b : Nat} {x : α}, K.own w base x → b ≤ base → K.own w b x
  rng : ∀ {w : World} {base : Nat} {x : α}, K.own w base x → ∀ j, K.blk x j → base ≤ j ∧ j < w.heap.size
structure Bag {α : Type} (K : Kd α) (w : World) (base : Nat) (E k : Nat) (a : Option Addr) (n cap : Nat) (X : List α) : Prop where
  row : Ow w base E k a n cap (X.flatMap K.cel)
  len : X.length = n
  each : ∀ x ∈ X, K.own w base x
  ap : X.Pairwise (fun x y => ∀ j, K.blk x j → ¬ K.blk y j)
  top : ∀ x ∈ X, ∀ j, K.blk x j → ¬ Blk a j
section
variable {α : Type} {K : Kd α} {w w' U : World} {base E k : Nat} {a : Option Addr} {n cap : Nat} {X : List α}
def Bag.B (K : Kd α) (a : Option Addr) (X : List α) (j : Nat) : Prop := Blk a j ∨ ∃ x ∈ X, K.blk x j
theorem Bag.nil (K : Kd α) (w : World) (base E k : Nat) : Bag K w base E k none 0 0 [] := ⟨Ow.nil _ _ _ _, rfl, fun x h => (by cases h), List.Pairwise.nil, fun x h => (by cases h)⟩
theorem Bag.but {S : Nat → Prop} (ko : KdOk K k) (h : Bag K w base E k a n cap X) (hb : But S w w') (hn : ∀ j, Bag.B K a X j → ¬ S j) : Bag K w' base E k a n cap X :=
  ⟨h.row.but hb (fun j hj => hn j (.inl hj)), h.len, fun x hx => ko.but (h.each x hx) hb (fun j hj => hn j (.inr ⟨x, hx, hj⟩)), h.ap, h.top⟩
theorem Bag.later (ko : KdOk K k) (h : Bag K w base E k a n cap X) (hb : Below w.heap.size w w') : Bag K w' base E k a n cap X := h.but ko (S := fun _ => False) (But.of hb) (fun _ _ h => h)
theorem Bag.mono (ko : KdOk K k) {b : Nat} (h : Bag K w base E k a n cap X) (hb : b ≤ base) : Bag K w b E k a n cap X := ⟨h.row.mono hb, h.len, fun x hx => ko.mono (h.each x hx) hb, h.ap, h.top⟩
theorem Bag.rng (ko : KdOk K k) (h : Bag K w base E k a n cap X) (j : Nat) (hj : Bag.B K a X j) : base ≤ j ∧ j < w.heap.size := by
  rcases hj with hj | ⟨x, hx, hj⟩
  · exact h.row.blk j hj
  · exact ko.rng (h.each x hx) j hj
theorem Bag.snoc (ko : KdOk K k) (t : TypeId) (z : Value) (by_ : Nat) (ht : Try.prog.underlying t = some (.slice E)) (hinf : (Try.prog.info? E).map (fun i => (i.zero, i.size, i.bytes)) = some (some z, k, by_)) (hzs : z.cells.size = k) (hk : 0 < k) (hby : 0 < by_)
    (h : Bag K U base E k a n cap X) (hb : base ≤ U.heap.size) (x : α) (hx : K.own U base x) (hap : ∀ j, K.blk x j → ¬ Bag.B K a X j) (hn : (n + 1) * by_ ≤ 140737488355328) :
    ∃ a' c' w3, (Builtin.append_ #[t, t] t #[.slice a n cap, .slice (some ⟨U.heap.size, 0, none⟩) 1 1]).run Try.prog (U.alloc (Obj.cells (K.cel x).toArray E)) = .ok (.slice a' (n + 1) c') w3 ∧ Bag K w3 base E k a' (n + 1) c' (X ++ [x]) ∧ But (Blk a) U w3 ∧ ∀ j, Blk a' j → Blk a j ∨ U.heap.size ≤ j := by
  have hcr := Cr.lit U E (K.cel x) (ko.one x)
  rw [ko.len] at hcr
  obtain ⟨a', c', w3, hrun, hO3, hG0⟩ := append_k t E z k by_ ht hinf hzs hk hby (h.row.later (below1 U (Obj.cells (K.cel x).toArray E))) hcr (by simp; omega) hn
  have hG := hG0.pre (below1 U (Obj.cells (K.cel x).toArray E))
  refine ⟨a', c', w3, hrun, ⟨?_, by simp [h.len], ?_, ?_, ?_⟩, hG.but, hG.on⟩
  · rw [List.flatMap_append]
    simp only [List.flatMap_cons, List.flatMap_nil, List.append_nil]
    exact hO3
  · intro p hp
    rcases List.mem_append.1 hp with hp | hp
    · exact ko.but (h.each p hp) hG.but (fun j hj hj2 => h.top p hp j hj hj2)
    · rw [List.mem_singleton.1 hp]
      exact ko.but hx hG.but (fun j hj hj2 => hap j hj (.inl hj2))
  · rw [List.pairwise_append]
    refine ⟨h.ap, List.pairwise_singleton _ _, fun p hp q hq j h1 h2 => ?_⟩
    rw [List.mem_singleton.1 hq] at h2
    exact hap j h2 (.inr ⟨p, hp, h1⟩)
  · intro p hp j h1 h2
    rcases List.mem_append.1 hp with hp | hp
    · rcases hG.on j h2 with h3 | h3
      · exact h.top p hp j h1 h3
      · have := (ko.rng (h.each p hp) j h1).2
        omega
    · rw [List.mem_singleton.1 hp] at h1
      rcases hG.on j h2 with h3 | h3
      · exact hap j h1 (.inl h3)
      · have := (ko.rng hx j h1).2
        omega
theorem flat_at (cel : α → List Value) (k : Nat) (hl : ∀ x, (cel x).length = k) : ∀ (M : List α) (i : Nat) (x : α), M[i]? = some x → ∀ j, j < k → (M.flatMap cel)[i * k + j]? = (cel x)[j]?
  | [], i, x, h, _, _ => by simp at h
  | y :: r, 0, x, h, j, hj => by
    simp only [List.getElem?_cons_zero, Option.some.injEq] at h
    subst h
    rw [List.flatMap_cons, Nat.zero_mul, Nat.zero_add, List.getElem?_append_left (by rw [hl]; exact hj)]
  | y :: r, i + 1, x, h, j, hj => by
    rw [List.getElem?_cons_succ] at h
    rw [List.flatMap_cons, List.getElem?_append_right (by rw [hl, Nat.add_mul]; omega), hl, show (i + 1) * k + j - k = i * k + j by rw [Nat.add_mul]; omega]
    exact flat_at cel k hl r i x h j hj
end
abbrev Cq := R.Cl × R.Sl × R.Sl
def kC : Kd Cq := ⟨fun x => R.cC x.1 x.2.1 x.2.2, fun w b x => CO w b x.1 x.2.1 x.2.2, fun x j => Blk x.2.1.a j ∨ Blk x.2.2.a j⟩
theorem kC_ok : KdOk kC 13 where
  len := fun x => rfl
  one := fun x u hu => by
    simp only [kC, R.cC, List.mem_cons, List.not_mem_nil, or_false] at hu
    rcases hu with h | h | h | h | h | h | h | h | h | h | h | h | h <;> (rw [h]; rfl)
  but := fun h hb hn => CO.but h hb hn
  mono := fun h hb => CO.mono h hb
  rng := fun h j hj => CO.rng h j hj
theorem infoC : (Try.prog.info? 47).map (fun i => (i.zero, i.size, i.bytes)) = some (some (.agg z13.toArray), 13, 136) := by kernel_rfl
abbrev Cbag (w : World) (base : Nat) (a : Option Addr) (n c : Nat) (X : List Cq) : Prop := Bag kC w base 47 13 a n c X
section
variable {w w' : World}
theorem Bag.cz {base : Nat} {a : Option Addr} {n c : Nat} {X : List Cq} (h : Cbag w base a n c X) (hd : ∀ x ∈ X, x.2.1.n ≤ 140737488355328 ∧ x.2.2.n * 8 ≤ 140737488355328) :
    Cz w a n (X.map Prod.fst) (fun i => (X[i]?.map (fun x => x.2.1)).getD R.Sl.nil) (fun i => (X[i]?.map (fun x => x.2.2)).getD R.Sl.nil) := by
  refine ⟨by rw [List.length_map, h.len], fun h0 => ?_, fun i c hc => ?_⟩
  · obtain ⟨b, e, hc⟩ := Ow.at_ h.row h0
    refine ⟨b, 0, e, fun i c hi j v hv => ?_⟩
    rw [List.getElem?_map] at hi
    obtain ⟨x, hx, rfl⟩ := Option.map_eq_some_iff.1 hi
    simp only [hx, Option.map_some, Option.getD_some] at hv
    rw [Nat.zero_add]
    have hj : j < 13 := by
      have := (List.getElem?_eq_some_iff.1 hv).1
      simpa [R.cC] using this
    refine hc _ _ ?_
    rw [flat_at kC.cel 13 kC_ok.len X i x hx j hj]
    exact hv
  · rw [List.getElem?_map] at hc
    obtain ⟨x, hx, rfl⟩ := Option.map_eq_some_iff.1 hc
    simp only [hx, Option.map_some, Option.getD_some]
    have hm := List.mem_of_getElem? hx
    exact ⟨(h.each x hm).is, hd x hm⟩
theorem cp_snoc {wr u1 : World} {ai : Option Addr} {i n ci : Nat} {X : List Cq} {cl : R.Cl} {d1 g1 : R.Sl} (hbag : Cbag wr w.heap.size ai i ci X) (hB : Below w.heap.size w wr) (hm : CO u1 wr.heap.size cl d1 g1) (hb : Below wr.heap.size wr u1) (hlt : i < n) (hn : n * 136 ≤ 140737488355328) :
    ∃ a3 c3 w3, (Builtin.append_ #[25, 25] 25 #[.slice ai i ci, .slice (some ⟨u1.heap.size, 0, none⟩) 1 1]).run Try.prog (u1.alloc (Obj.cells #[.int .i64 cl.op, .int .i64 cl.by_, .int .i64 cl.size, .int .i64 cl.obj, .int .u64 (cl.hi : Int), .int .u64 (cl.lo : Int), .bool cl.given, .int .i64 cl.rights, .int .i64 cl.off, .int .i64 cl.n, .slice d1.a d1.n d1.c, .int .i64 cl.index, .slice g1.a g1.n g1.c] 47)) = .ok (.slice a3 (i + 1) c3) w3 ∧ Cbag w3 w.heap.size a3 (i + 1) c3 (X ++ [(cl, d1, g1)]) ∧ But (Blk ai) u1 w3 ∧ ∀ j, Blk a3 j → Blk ai j ∨ u1.heap.size ≤ j := by
  have h1 := Bag.snoc kC_ok 25 _ 136 Try.underlying25 infoC rfl (by omega) (by omega) (hbag.later kC_ok hb) (Nat.le_trans hB.size hb.size) (cl, d1, g1) (CO.mono hm hB.size) (fun j hj hj2 => by have h1 := (CO.rng hm j hj).1; have h2 := (hbag.rng kC_ok j hj2).2; omega) (Nat.le_trans (Nat.mul_le_mul_right 136 hlt) hn)
  exact h1
theorem copied_lit {cl : R.Cl} {dd gg : R.Sl} (h : R.Is w cl dd gg) (hb1 : dd.n ≤ 140737488355328) (hb2 : gg.n * 8 ≤ 140737488355328) :
    Calls Try.prog 11 #[.agg (R.cC cl dd gg).toArray] w fun e w' => ∃ d1 g1 : R.Sl, e = .returned (.agg #[.int .i64 cl.op, .int .i64 cl.by_, .int .i64 cl.size, .int .i64 cl.obj, .int .u64 (cl.hi : Int), .int .u64 (cl.lo : Int), .bool cl.given, .int .i64 cl.rights, .int .i64 cl.off, .int .i64 cl.n, .slice d1.a d1.n d1.c, .int .i64 cl.index, .slice g1.a g1.n g1.c]) ∧ CO w' w.heap.size cl d1 g1 ∧ Below w.heap.size w w' := copied_own h hb1 hb2
def CcRel (w : World) (C : List R.Cl) (n : Nat) (v3 v4 : Value) (U : World) : Prop :=
  ∃ (i : Nat) (a : Option Addr) (c : Nat) (X : List Cq), v3 = .slice a i c ∧ v4 = .int .i64 (i : Int) ∧ i ≤ n ∧ Cbag U w.heap.size a i c X ∧ X.map Prod.fst = C.take i ∧ (∀ x ∈ X, x.2.1.n ≤ 140737488355328 ∧ x.2.2.n * 8 ≤ 140737488355328) ∧ Below w.heap.size w U
def CcOut (w : World) (C : List R.Cl) (n : Nat) (e : Ending) (w' : World) : Prop :=
  ∃ (a : Option Addr) (c : Nat) (X : List Cq), e = .returned (.slice a n c) ∧ Cbag w' w.heap.size a n c X ∧ X.map Prod.fst = C ∧ (∀ x ∈ X, x.2.1.n ≤ 140737488355328 ∧ x.2.2.n * 8 ≤ 140737488355328) ∧ Below w.heap.size w w'
set_option maxRecDepth 100000 in
set_option maxHeartbeats 4000000 in
theorem copies_any {a : Option Addr} {n cap : Nat} {C : List R.Cl} {D' G' : Nat → R.Sl} (hC : Cz w a n C D' G') (hn : n * 136 ≤ 140737488355328) : Calls Try.prog 7 #[.slice a n cap] w (CcOut w C n) := by
  have HCz := hid hC
  have HLen := hid hC.len
  have hn2 : n ≤ 140737488355328 := Nat.le_trans (Nat.le_mul_of_pos_right _ (by omega)) hn
  have HN := hid hn
  clear hC hn
  go_enter Try.func7, Try.ntmps7
  go_upto_region 3 with fail
  go_loopw [3, 4] (CcRel w C n) (fun _ v _ => n - S.ivN v)
  case atStart => exact ⟨0, none, 0, [], rfl, rfl, Nat.zero_le _, Bag.nil _ _ _ _ _, (by simp), fun x h => (by cases h), Below.refl _ _⟩
  case round =>
    obtain ⟨i, ai, ci, X, rfl, rfl, hi, hbag, hX, hsz, hB⟩ := hrel
    have HBag := hid hbag
    have HX := hid hX
    have HSz := hid hsz
    have HB := hid hB
    clear hbag hX hsz hB
    by_cases hlt : i < n
    · have hd : decide ((i : Int) < (n : Int)) = true := decide_eq_true (by omega)
      obtain ⟨cl, hcl⟩ : ∃ cl, C[i]? = some cl := ⟨_, List.getElem?_eq_getElem (by have := HLen.out; omega)⟩
      obtain ⟨b, o, rfl, hrg⟩ := HCz.out.at_ (by omega)
      have hrg := hrg i cl hcl
      have HIs := hid (HCz.out.is i cl hcl)
      have HRg : Hid (∀ U, Below w.heap.size w U → U.rangeAt b (o + i * 13) (R.cC cl (D' i) (G' i))) := fun U hU j v hv => cell_later hU (hrg j v hv)
      have HLd := hid (ldC_at (HRg.out wr HB.out))
      have HCp := hid (copied_lit (HIs.out.1.later HB.out) HIs.out.2.1 HIs.out.2.2)
      have HCl := hid hcl
      clear hcl hrg
      go_upto_region 4 with (first | ((with_reducible refine R.ld_arm HLd.out ?_ ?_); (· rfl)) | (go_at_call 11; refine HCp.out.mono ?_; rintro e u1 ⟨d1, g1, rfl, hm, hb⟩; have HMn := hid hm; have HU1 := hid hb; obtain ⟨a3, c3, w3, hrun, hbag3, hb3, -⟩ := cp_snoc HBag.out HB.out hm hb hlt HN.out; have HRUN := hid hrun; have HBag3 := hid hbag3; have HB3 := hid hb3; clear hm hb hrun hbag3 hb3) | (at_builtin; refine wpList_append_known rfl _ _ 25 rfl _ _ rfl rfl _ w3 HRUN.out ?_))
      have hxs : (X ++ [(cl, d1, g1)]).map Prod.fst = C.take (i + 1) := by
        rw [List.map_append, HX.out, List.take_add_one, HCl.out]
        rfl
      have hfin : CcRel w C n (.slice a3 (i + 1) c3) (.int .i64 ((i + 1 : Nat) : Int)) w3 := ⟨i + 1, a3, c3, _, rfl, rfl, hlt, HBag3.out, hxs, fun x hx => ?_, But.below (below_call HB.out HU1.out) HB3.out (fun j hj => (HBag.out.row.blk j hj).1)⟩
      · have HF := hid hfin
        clear hfin hxs
        go_wp2
        exact ⟨HF.out, by simp [S.ivN]; omega⟩
      · rcases List.mem_append.1 hx with hx | hx
        · exact HSz.out x hx
        · rw [List.mem_singleton.1 hx]
          have h1 := HMn.out.is.data.len
          have h2 := HMn.out.is.gifts.len
          have h3 := HIs.out.1.data.len
          have h4 := HIs.out.1.gifts.len
          have h5 := HIs.out.2
          exact ⟨by show d1.n ≤ _; omega, by show g1.n * 8 ≤ _; rw [← h2, h4]; exact h5.2⟩
    · obtain rfl : i = n := by omega
      have hd : decide ((i : Int) < (i : Int)) = false := by simp
      have hlen := HLen.out
      have hfin : CcOut w C i (.returned (.slice ai i ci)) wr := ⟨ai, ci, X, rfl, HBag.out, by rw [HX.out, List.take_of_length_le (by omega)], HSz.out, HB.out⟩
      have HF := hid hfin
      clear hfin hlen
      go_wp2
      go_ret
      exact HF.out
end
end Go.Proofs.Ytffmodpgddecnaa.V.E
namespace Go.Proofs.Ytffmodpgddecnaa.V.E
open Go.RowKit Go.Maps
open Go.Proofs.Ytffmodpgddecnaa.H (B64 Cp)
set_option linter.unusedVariables false
set_option linter.unusedSimpArgs false
def rpl (p : Pm) : Pl → List R.Cl → List Rep
  | _, [] => []
  | q, c :: C => (pDo p q c).1 :: rpl p (pDo p q c).2 C
def stL (p : Pm) : Pl → List R.Cl → Pl
  | q, [] => q
  | q, c :: C => stL p (pDo p q c).2 C
theorem rpl_snoc (p : Pm) (c : R.Cl) : ∀ (C : List R.Cl) (q : Pl), rpl p q (C ++ [c]) = rpl p q C ++ [(pDo p (stL p q C) c).1] ∧ stL p q (C ++ [c]) = (pDo p (stL p q C) c).2
  | [], q => ⟨rfl, rfl⟩
  | d :: C, q => by
    have ih := rpl_snoc p c C (pDo p q d).2
    exact ⟨by rw [List.cons_append, rpl, ih.1]; rfl, by rw [List.cons_append, stL, ih.2]; rfl⟩
theorem rpl_len (p : Pm) : ∀ (C : List R.Cl) (q : Pl), (rpl p q C).length = C.length
  | [], q => rfl
  | d :: C, q => by rw [rpl, List.length_cons, rpl_len p C, List.length_cons]
theorem rpl_take (p : Pm) : ∀ (n : Nat) (C : List R.Cl) (q : Pl), rpl p q (C.take n) = (rpl p q C).take n
  | 0, C, q => by simp [rpl]
  | n + 1, [], q => by simp [rpl]
  | n + 1, d :: C, q => by rw [List.take_succ_cons, rpl, rpl, List.take_succ_cons, rpl_take p n C]
theorem rpl_at (p : Pm) (q : Pl) {C : List R.Cl} {i : Nat} {c : R.Cl} (h : C[i]? = some c) : (rpl p q C)[i]? = some (pDo p (stL p q (C.take i)) c).1 := by
  have h1 : C.take (i + 1) = C.take i ++ [c] := by rw [List.take_add_one, h]; rfl
  have h2 := rpl_take p (i + 1) C q
  have hi : i < C.length := (List.getElem?_eq_some_iff.1 h).1
  rw [h1, (rpl_snoc p c _ q).1] at h2
  have h3 : ((rpl p q C).take (i + 1))[i]? = some (pDo p (stL p q (C.take i)) c).1 := by
    rw [← h2, List.getElem?_append_right (by rw [rpl_len, List.length_take]; omega), rpl_len, List.length_take, Nat.min_eq_left (by omega), Nat.sub_self]
    rfl
  rw [List.getElem?_take_of_lt (by omega)] at h3
  exact h3
abbrev Rq := Rep × R.Sl
def kR : Kd Rq := ⟨fun x => rpL x.1 x.2.a x.2.n x.2.c, fun w b x => Own w b 5 x.2.a x.2.n x.2.c (S.u8s x.1.data), fun x j => Blk x.2.a j⟩
theorem kR_ok : KdOk kR 6 where
  len := fun x => rfl
  one := fun x u hu => by
    simp only [kR, rpL, List.mem_cons, List.not_mem_nil, or_false] at hu
    rcases hu with h | h | h | h | h | h <;> (rw [h]; rfl)
  but := fun h hb hn => Own.but hb h hn
  mono := fun h hb => Own.mono h hb
  rng := fun h j hj => ⟨Own.blk h j hj, Own.lt h j hj⟩
theorem infoR : (Try.prog.info? 43).map (fun i => (i.zero, i.size, i.bytes)) = some (some (.agg #[.int .i64 0, .int .i64 0, .int .u64 0, .int .u64 0, .slice none 0 0, .int .i64 0]), 6, 64) := by kernel_rfl
abbrev Rbag (w : World) (base : Nat) (a : Option Addr) (n c : Nat) (X : List Rq) : Prop := Bag kR w base 43 6 a n c X
def MdB (g bo bl : Nat) (N : Nat → Prop) (j : Nat) : Prop := N j ∨ j = bo ∨ j = bl ∨ j = g
structure Rn (w U : World) (h : Hm) (C : List R.Cl) (i : Nat) (a : Option Addr) (c : Nat) (X : List Rq) (bo bl : Nat) (N : Nat → Prop) : Prop where
  bag : Rbag U w.heap.size a i c X
  rep : X.map Prod.fst = rpl h.p pl0 (C.take i)
  md : Mw U { h with bo := bo, bl := bl } (stL h.p pl0 (C.take i)) N
  fit : Fit h.p (stL h.p pl0 (C.take i))
  lo : ∀ j, MdB h.g bo bl N j → w.heap.size ≤ j
  ap : ∀ j, Bag.B kR a X j → ¬ MdB h.g bo bl N j
  bel : Below w.heap.size w U
section
variable {w w' U U1 u2 : World} {h : Hm} {C : List R.Cl} {i : Nat} {a : Option Addr} {c : Nat} {X : List Rq} {bo bl : Nat} {N : Nat → Prop}
theorem Mw.lt {q : Pl} (k : Mw w h q N) (j : Nat) (hj : MdB h.g h.bo h.bl N j) : j < w.heap.size := by
  obtain ⟨Es, Ls, k⟩ := k
  rcases hj with hj | rfl | rfl | rfl
  · exact k.lt j hj
  · exact k.olt
  · exact k.llt
  · exact k.glt
theorem Mw.but {B : Nat → Prop} {q : Pl} (k : Mw w h q N) (hb : But B w w') (hn : ∀ j, MdB h.g h.bo h.bl N j → ¬ B j) : Mw w' h q N := by
  obtain ⟨Es, Ls, k⟩ := k
  exact ⟨Es, Ls, k.but hb (fun j hj => hn j (.inl hj)) (hn _ (.inr (.inr (.inr rfl)))) (hn _ (.inr (.inl rfl))) (hn _ (.inr (.inr (.inl rfl))))⟩
theorem Rn.later (k : Rn w U h C i a c X bo bl N) (hb : Below U.heap.size U w') : Rn w w' h C i a c X bo bl N :=
  ⟨k.bag.later kR_ok hb, k.rep, k.md.later hb, k.fit, k.lo, k.ap, below_call k.bel hb⟩
theorem fit_is {p : Pm} {q : Pl} {cl : R.Cl} {dd gg : R.Sl} (hf : Fit p q) (hi : R.Is w cl dd gg) : Fit p (pDo p q cl).2 := by
  refine fit_do hf cl (fun hm => ?_) ⟨hi.hi, hi.lo⟩ hi.data.small
  refine ⟨(att_of hi hm).ob, ?_⟩
  unfold R.fm R.inB R.wi at hm
  simp only [Bool.and_eq_true, decide_eq_true_eq] at hm
  unfold S.i64ok
  omega
theorem Rn.step (k : Rn w U h C i a c X bo bl N) {cl : R.Cl} (hcl : C[i]? = some cl) (hb : Below U.heap.size U U1) {dd gg : R.Sl} (his : R.Is w cl dd gg) {r : Rep × Pl} (hr : r = pDo h.p (stL h.p pl0 (C.take i)) cl)
    {a2 : Option Addr} {n2 c2 bo2 bl2 : Nat} {N2 : Nat → Prop} (hO : Own u2 U1.heap.size 5 a2 n2 c2 (S.u8s r.1.data)) (hm : Mw u2 { h with bo := bo2, bl := bl2 } r.2 N2) (hg : But (· = h.g) U1 u2)
    (hn : ∀ k, (N2 k ∨ k = bo2 ∨ k = bl2) → (N k ∨ k = bo ∨ k = bl) ∨ U1.heap.size ≤ k) (ha : ∀ k, Blk a2 k → ¬ N2 k ∧ k ≠ bo2 ∧ k ≠ bl2) (hsz : (i + 1) * 64 ≤ 140737488355328) :
    ∃ a3 c3 w3, (Builtin.append_ #[27, 27] 27 #[.slice a i c, .slice (some ⟨u2.heap.size, 0, none⟩) 1 1]).run Try.prog (u2.alloc (Obj.cells #[.int .i64 r.1.code, .int .i64 r.1.cap.1, .int .u64 (r.1.cap.2.1 : Int), .int .u64 (r.1.cap.2.2 : Int), .slice a2 n2 c2, .int .i64 r.1.num] 43)) = .ok (.slice a3 (i + 1) c3) w3 ∧
      Rn w w3 h C (i + 1) a3 c3 (X ++ [(r.1, ⟨a2, n2, c2⟩)]) bo2 bl2 N2 := by
  have k1 := k.later hb
  have hgl := k1.md.lt h.g (.inr (.inr (.inr rfl)))
  have hbag2 := k1.bag.but kR_ok hg (fun j hj e => k1.ap j hj (.inr (.inr (.inr e))))
  have hU1 : w.heap.size ≤ U1.heap.size := k1.bel.size
  have hap2 : ∀ j, Blk a2 j → ¬ Bag.B kR a X j := fun j hj hj2 => by
    have h1 := hO.blk j hj
    have h2 := (k1.bag.rng kR_ok j hj2).2
    omega
  have hs := Bag.snoc kR_ok 27 _ 64 Try.underlying27 infoR rfl (by omega) (by omega) hbag2 (Nat.le_trans hU1 hg.size) (r.1, (⟨a2, n2, c2⟩ : R.Sl)) (show Own _ _ _ _ _ _ _ from Own.mono hO hU1) hap2 hsz
  obtain ⟨a3, c3, w3, hrun, hb3, hB3, hG3⟩ := hs
  have hX : C.take (i + 1) = C.take i ++ [cl] := by rw [List.take_add_one, hcl]; rfl
  have hnot : ∀ j, MdB h.g bo2 bl2 N2 j → ¬ Blk a j := fun j hj hj2 => by
    have h0 := k1.ap j (.inl hj2)
    have h9 := (k1.bag.row.blk j hj2).2
    rcases hj with hj | hj | hj | hj
    · rcases hn j (.inl hj) with (e | e | e) | e
      · exact h0 (.inl e)
      · exact h0 (.inr (.inl e))
      · exact h0 (.inr (.inr (.inl e)))
      · omega
    · rcases hn j (.inr (.inl hj)) with (e | e | e) | e
      · exact h0 (.inl e)
      · exact h0 (.inr (.inl e))
      · exact h0 (.inr (.inr (.inl e)))
      · omega
    · rcases hn j (.inr (.inr hj)) with (e | e | e) | e
      · exact h0 (.inl e)
      · exact h0 (.inr (.inl e))
      · exact h0 (.inr (.inr (.inl e)))
      · omega
    · exact h0 (.inr (.inr (.inr hj)))
  have hlo2 : ∀ j, MdB h.g bo2 bl2 N2 j → w.heap.size ≤ j := fun j hj => by
    have hh : ∀ j, (N2 j ∨ j = bo2 ∨ j = bl2) → w.heap.size ≤ j := fun j hj => by
      rcases hn j hj with (e | e | e) | e
      · exact k.lo j (.inl e)
      · exact k.lo j (.inr (.inl e))
      · exact k.lo j (.inr (.inr (.inl e)))
      · omega
    rcases hj with hj | hj | hj | hj
    · exact hh j (.inl hj)
    · exact hh j (.inr (.inl hj))
    · exact hh j (.inr (.inr hj))
    · exact k.lo j (.inr (.inr (.inr hj)))
  have hl := hG3
  have hapB : ∀ j, Bag.B kR a3 (X ++ [(r.1, (⟨a2, n2, c2⟩ : R.Sl))]) j → ¬ MdB h.g bo2 bl2 N2 j := fun j hj hj2 => by
    rcases hj with hj | ⟨x, hx, hj⟩
    · rcases hl j hj with e | e
      · exact hnot j hj2 e
      · have := hm.lt j hj2
        omega
    · rcases List.mem_append.1 hx with hx | hx
      · have h0 := k1.ap j (.inr ⟨x, hx, hj⟩)
        have h9 := (k1.bag.rng kR_ok j (.inr ⟨x, hx, hj⟩)).2
        have hh : ∀ j', j' = j → (N2 j' ∨ j' = bo2 ∨ j' = bl2) → False := fun j' e hj' => by
          subst e
          rcases hn j' hj' with (e | e | e) | e
          · exact h0 (.inl e)
          · exact h0 (.inr (.inl e))
          · exact h0 (.inr (.inr (.inl e)))
          · omega
        rcases hj2 with e | e | e | e
        · exact hh j rfl (.inl e)
        · exact hh j rfl (.inr (.inl e))
        · exact hh j rfl (.inr (.inr e))
        · exact h0 (.inr (.inr (.inr e)))
      · rw [List.mem_singleton.1 hx] at hj
        have h1 := ha j hj
        have h2 := hO.blk j hj
        rcases hj2 with e | e | e | e
        · exact h1.1 e
        · exact h1.2.1 e
        · exact h1.2.2 e
        · have := k1.md.lt h.g (.inr (.inr (.inr rfl)))
          omega
  refine ⟨a3, c3, w3, hrun, hb3, ?_, ?_, ?_, hlo2, hapB, ?_⟩
  · rw [hX, (rpl_snoc _ _ _ _).1, List.map_append, k.rep, ← hr]
    rfl
  · rw [hX, (rpl_snoc _ _ _ _).2, ← hr]
    exact hm.but hB3 hnot
  · rw [hX, (rpl_snoc _ _ _ _).2]
    exact fit_is k.fit his
  · exact But.below (But.below k1.bel hg (fun j e => k.lo j (.inr (.inr (.inr e))))) hB3 (fun j hj => (k.bag.row.blk j hj).1)
end
end Go.Proofs.Ytffmodpgddecnaa.V.E
namespace Go.Proofs.Ytffmodpgddecnaa.V.E
open Go.RowKit Go.Maps
open Go.Proofs.Ytffmodpgddecnaa.H (B64 Cp)
set_option linter.unusedVariables false
set_option linter.unusedSimpArgs false
def TreA (q : Pl) : Prop := ∀ e ∈ q.O, Tre e.2.T
section
variable {p : Pm} {q : Pl}
theorem dr_new {P : Nat → Bool} {c : Nat → Nat} {n : Nat} : ∀ {k t : Nat}, (D.drawR P c n k t).2.1 = 0 → P (D.drawR P c n k t).1 = false
  | 0, t, h => by simp [D.drawR] at h
  | k + 1, t, h => by
    rw [D.drawR] at h ⊢
    split at h
    · rename_i h1
      rw [if_pos h1]
      split at h
      · rename_i h2
        rw [if_pos h2]
        exact dr_new h
      · rename_i h2
        rw [if_neg h2]
        simpa using h2
    · simp at h
theorem tre_stO (h : TreA q) (o : Int) (f : Ob → Ob) (hf : ∀ e ∈ q.O, e.1 = o → Tre (f e.2).T) : ∀ e ∈ stO q.O o f, Tre e.2.T := fun e he => by
  unfold stO at he
  obtain ⟨x, hx, rfl⟩ := List.mem_map.1 he
  by_cases e1 : x.1 = o
  · rw [if_pos e1]; exact hf x hx e1
  · rw [if_neg e1]; exact h x hx
theorem tre_noO (h : TreA q) (o : Int) : ∀ e ∈ noO q.O o, Tre e.2.T := fun e he => h e (List.mem_filter.1 he).1
theorem tk_mem (hr : q.O.Pairwise (fun a b => a.1 < b.1)) {e : Int × Ob} (he : e ∈ q.O) : tkO q.O e.1 = e.2.T := by
  unfold tkO
  rw [ob_mem hr e he]
  rfl
theorem fnd_no {T : List Tn} {hi lo : Nat} (h : (fnd T hi lo).isSome = false) : ∀ a ∈ T, a.w ≠ (hi, lo) := fun a ha e => by
  have h2 : fnd T hi lo = none := by simpa using h
  unfold fnd at h2
  have := List.find?_eq_none.1 h2 a ha
  simp only [decide_eq_true_eq] at this
  unfold Tn.w at e
  exact this ⟨congrArg Prod.fst e, congrArg Prod.snd e⟩
theorem tre_der (h : TreA q) (hr : q.O.Pairwise (fun a b => a.1 < b.1)) (c : Cp) (rt : Int) : TreA (pDer p q c rt).2 := by
  unfold pDer
  split
  · exact h
  · rename_i h1
    split
    · exact h
    · rename_i h2
      have h2 : (pDrw p q c.1).2.1 = 0 := by simpa using h2
      have hn : ∀ a ∈ tkO q.O c.1, a.w ≠ ((pDrw p q c.1).1 / B64, (pDrw p q c.1).1 % B64) := fnd_no (dr_new h2)
      have hs : ∃ t, fnd (tkO q.O c.1) c.2.1 c.2.2 = some t := by
        unfold srE at h1
        cases hf : fnd (tkO q.O c.1) c.2.1 c.2.2 with
        | none => rw [hf] at h1; simp at h1
        | some t => exact ⟨t, rfl⟩
      obtain ⟨t, ht⟩ := hs
      obtain ⟨hm, e1, e2⟩ := fnd_is ht
      intro e he
      dsimp only at he
      refine tre_stO h _ _ (fun e he e3 => ?_) e he
      have e4 := tk_mem hr he
      rw [e3] at e4
      rw [e4] at hm
      refine (h e he).snoc (fun a ha => hn a (by rw [e4]; exact ha)) (fun _ => ⟨t, hm, ?_⟩)
      unfold Tn.w Tn.u
      rw [e1, e2]
theorem tre_rev (h : TreA q) (c : Cp) : TreA (pRev q c).2 := by
  unfold pRev
  split
  · exact h
  · split
    · exact h
    · split
      · exact tre_noO h _
      · intro e he
        dsimp only at he
        refine tre_stO h _ _ (fun e he _ => ?_) e he
        exact (h e he).wsT _
theorem tre_cre (h : TreA q) (s : Int) : TreA (pCre p q s).2 := by
  unfold pCre
  split
  · exact h
  · split
    · exact h
    · intro e he
      rcases List.mem_append.1 he with he | he
      · exact h e he
      · rw [List.mem_singleton.1 he]
        exact Tre.one _
theorem tre_do (h : TreA q) (hr : q.O.Pairwise (fun a b => a.1 < b.1)) (c : R.Cl) : TreA (pDo p q c).2 := by
  unfold pDo
  split
  · exact h
  · split
    · exact h
    · unfold pDeed
      split
      · exact tre_cre h _
      split
      · unfold pDes
        split
        · exact h
        · exact tre_noO h _
      split
      · exact tre_der h hr _ _
      split
      · exact tre_rev h _
      split
      · unfold pRead
        split
        · exact h
        · split
          · exact h
          · exact h
      split
      · unfold pWrite
        split
        · exact h
        · split
          · intro e he
            dsimp only at he
            refine tre_stO h _ _ (fun e he _ => ?_) e he
            exact h e he
          · exact h
      split
      · unfold pAdd
        split
        · exact h
        · split
          · exact h
          · exact h
      split
      · unfold pRem
        split
        · exact h
        · exact h
      split
      · unfold pSpa
        split
        · exact h
        · split
          · exact h
          · exact h
      · exact h
theorem tre_new : TreA pl0 := fun e he => by cases he
def tlO (acc : List Tok) (e : Int × Ob) : List Tok := match e.2.T.head? with
  | none => acc
  | some r => tel e.2.T e.1 e.2.T.length acc r (-1)
def psP (q : Pl) : Ps := ⟨vO q.O, q.O.foldl tlO [], q.X, q.nx, q.px, (q.t : Int)⟩
theorem tlO_len {O : List (Int × Ob)} (h : ∀ e ∈ O, Tre e.2.T) : ∀ (acc : List Tok), (O.foldl tlO acc).length ≤ acc.length + lvN O := by
  induction O with
  | nil => intro acc; exact Nat.le_add_right _ _
  | cons e O ih =>
    intro acc
    rw [List.foldl_cons]
    have h1 := ih (fun e he => h e (by simp [he])) (tlO acc e)
    have h2 : (tlO acc e).length ≤ acc.length + e.2.T.length := by
      unfold tlO
      cases hr : e.2.T.head? with
      | none => simp only; omega
      | some r =>
        simp only
        rw [tel_len]
        have := (h e (by simp)).sz hr e.2.T.length
        omega
    have h3 : lvN (e :: O) = e.2.T.length + lvN O := by simp [lvN]
    omega
end
end Go.Proofs.Ytffmodpgddecnaa.V.E
namespace Go.Proofs.Ytffmodpgddecnaa.V.E
open Go.RowKit Go.Maps
open Go.Proofs.Ytffmodpgddecnaa.H (B64 Cp)
set_option linter.unusedVariables false
set_option linter.unusedSimpArgs false
theorem infoTk : (Try.prog.info? 62).map (fun i => (i.zero, i.size, i.bytes)) = some (some (.agg #[.int .i64 0, .int .u64 0, .int .u64 0, .int .i64 0, .int .i64 0]), 5, 40) := by kernel_rfl
def TlOut (w : World) (base : Nat) (a : Option Addr) (L : List Tok) (e : Ending) (w' : World) : Prop :=
  ∃ a' c', e = .returned (.slice a' L.length c') ∧ Ow w' base 62 5 a' L.length c' (toks L) ∧ Gr a a' w w'
def TlRel (W : World) (base : Nat) (a : Option Addr) (T : List Tn) (id : Int) (k : Nat) (t : Tn) (at_ : Int) (s0 : List Tok) (n : Nat) (v1 v31 : Value) (U : World) : Prop :=
  ∃ (i : Nat) (a2 : Option Addr) (c2 : Nat) (s2 : List Tok), v1 = .slice a2 s2.length c2 ∧ v31 = .int .i64 (i : Int) ∧ i ≤ n - 1 ∧ s2 = ((T.drop 1).take i).foldl (telS T id k t at_) s0 ∧ Ow U base 62 5 a2 s2.length c2 (toks s2) ∧ Gr a a2 W U
theorem fold_take {T : List Tn} (F : List Tok → Tn → List Tok) (s0 : List Tok) {i : Nat} {c : Tn} (h : T[i + 1]? = some c) : ((T.drop 1).take (i + 1)).foldl F s0 = F (((T.drop 1).take i).foldl F s0) c := by
  have h1 : (T.drop 1)[i]? = some c := by rw [List.getElem?_drop, Nat.add_comm]; exact h
  rw [List.take_add_one, h1, List.foldl_append]
  rfl
theorem fold_grow (F : List Tok → Tn → List Tok) (hF : ∀ a c, a.length ≤ (F a c).length) : ∀ (L : List Tn) (a : List Tok), a.length ≤ (L.foldl F a).length
  | [], a => Nat.le_refl _
  | x :: r, a => Nat.le_trans (hF a x) (fold_grow F hF r _)
theorem telS_len (T : List Tn) (id : Int) (k : Nat) (t : Tn) (at_ : Int) (a : List Tok) (c : Tn) : a.length ≤ (telS T id k t at_ a c).length := by
  unfold telS
  split
  · rw [tel_len]; omega
  · exact Nat.le_refl _
theorem tel_fold (T : List Tn) (id : Int) (k : Nat) (s : List Tok) (t : Tn) (par : Int) : tel T id (k + 1) s t par = (T.drop 1).foldl (telS T id k t (s.length : Int)) (s ++ [tokT id t par]) := rfl
theorem fold_le (F : List Tok → Tn → List Tok) (hF : ∀ a c, a.length ≤ (F a c).length) (L : List Tn) (a : List Tok) (i : Nat) : ((L.take i).foldl F a).length ≤ (L.foldl F a).length := by
  conv => rhs; rw [← List.take_append_drop i L, List.foldl_append]
  exact fold_grow F hF _ _
section
set_option maxRecDepth 100000 in
set_option maxHeartbeats 4000000 in
theorem tell_any {T : List Tn} (hT : Tre T) {n : Nat} (hn : T.length = n) (hn2 : n ≤ 1024) (ba ta : Option Addr) (bl bc tc : Nat) (id : Int) : ∀ (k i : Nat) (t : Tn) (s : List Tok) (par : Int) (w : World) (base : Nat) (a : Option Addr) (c : Nat),
    T[i]? = some t → n ≤ i + k → s.length + sz T k t ≤ 1048576 → Ow w 0 83 5 ta n tc (tns T) → Ow w base 62 5 a s.length c (toks s) → base ≤ w.heap.size → (∀ j, Blk a j → ¬ Blk ta j) →
    Calls Try.prog 24 #[.agg #[.slice ba bl bc, .slice ta n tc], .slice a s.length c, .int .i64 id, .agg #[.int .u64 (t.hi : Int), .int .u64 (t.lo : Int), .int .i64 t.r, .int .u64 (t.uh : Int), .int .u64 (t.ul : Int)], .int .i64 par] w (TlOut w base a (tel T id k s t par))
  | 0, i, t, s, par, w, base, a, c, ht, hk, _, _, _, _, _ => by
    have := (List.getElem?_eq_some_iff.1 ht).1
    omega
  | k + 1, i, t, s, par, w, base, a, c, ht, hk, hM, hTo, hO, hb, hap => by
    have ih := tell_any hT hn hn2 ba ta bl bc tc id k
    obtain ⟨W, hW⟩ : ∃ W, W = (w.alloc (.cells #[.slice ba bl bc, .slice ta n tc] 80)).alloc (.cells #[.int .u64 (t.hi : Int), .int .u64 (t.lo : Int), .int .i64 t.r, .int .u64 (t.uh : Int), .int .u64 (t.ul : Int)] 83) := ⟨_, rfl⟩
    have hB : Below w.heap.size w W := by rw [hW]; exact below2 _ _ _
    have hWs : W.heap.size = w.heap.size + 2 := by rw [hW]; simp
    have c0 : W.cell? ⟨w.heap.size, 0, none⟩ = some (.slice ba bl bc) := by rw [hW]; simp [go_sem]
    have c1 : W.cell? ⟨w.heap.size, 1, none⟩ = some (.slice ta n tc) := by rw [hW]; simp [go_sem]
    have hTc : Tc W (w.heap.size + 1) 0 t := by rw [hW]; exact ⟨by simp [go_sem], by simp [go_sem], by simp [go_sem], by simp [go_sem], by simp [go_sem]⟩
    have hil := (List.getElem?_eq_some_iff.1 ht).1
    have hab := fun j hj => hO.blk j hj
    have hTb := fun j hj => hTo.blk j hj
    have hst : ∀ U, But (Blk a) W U → U.cell? ⟨w.heap.size, 0, none⟩ = some (.slice ba bl bc) ∧ U.cell? ⟨w.heap.size, 1, none⟩ = some (.slice ta n tc) ∧ Tc U (w.heap.size + 1) 0 t ∧ Ow U 0 83 5 ta n tc (tns T) := fun U hU => by
      have n0 : ¬ Blk a w.heap.size := fun e => by have := (hab _ e).2; omega
      have n1 : ¬ Blk a (w.heap.size + 1) := fun e => by have := (hab _ e).2; omega
      exact ⟨cell_but hU c0 n0, cell_but hU c1 n0, ⟨cell_but hU hTc.c0 n1, cell_but hU hTc.c1 n1, cell_but hU hTc.c2 n1, cell_but hU hTc.c3 n1, cell_but hU hTc.c4 n1⟩, (hTo.later hB).but hU (fun j hj e => hap j e hj)⟩
    have hOW := hO.later hB
    have hcr := Cr.lit W 62 (encT (tokT id t par)) (fun u hu => by simp only [encT, List.mem_cons, List.not_mem_nil, or_false] at hu; rcases hu with h | h | h | h | h <;> (rw [h]; rfl))
    obtain ⟨a1, c1_, V, hrun, hO1, hG0⟩ := append_k 53 62 _ 5 40 Try.underlying53 infoTk rfl (by omega) (by omega) (hOW.later (below1 W (Obj.cells (encT (tokT id t par)).toArray 62))) hcr (by have := hB.size; simp; omega) (by have := hM; omega)
    have hG1 := hG0.pre (below1 W (Obj.cells (encT (tokT id t par)).toArray 62))
    have hs1 : (s ++ [tokT id t par]).length = s.length + 1 := by simp
    have hO1 : Ow V base 62 5 a1 (s ++ [tokT id t par]).length c1_ (toks (s ++ [tokT id t par])) := by
      rw [hs1]
      have : toks (s ++ [tokT id t par]) = toks s ++ encT (tokT id t par) := by simp [toks]
      rw [this]
      exact hO1
    simp only [encT, tokT] at hrun
    obtain ⟨t0, t1, t2, t3, t4⟩ := hTc
    have HRUN := hid hrun
    have hfin := tel_fold T id k s t par
    obtain ⟨s0, hs0⟩ : ∃ s0, s0 = s ++ [tokT id t par] := ⟨_, rfl⟩
    rw [← hs0] at hfin hO1 hs1
    obtain ⟨at_, hat⟩ : ∃ at_ : Int, at_ = (s.length : Int) := ⟨_, rfl⟩
    have hMf : ((T.drop 1).foldl (telS T id k t at_) s0).length ≤ 1048576 := by
      have := tel_len T id (k + 1) s t par
      rw [hfin, ← hat] at this
      omega
    have HM := hid hMf
    have HFin : Hid (tel T id (k + 1) s t par = (T.drop 1).foldl (telS T id k t at_) s0) := by rw [hat]; exact hfin
    have HAt := hid hat
    have HW := hid hW
    have HB := hid hB
    have HSt := hid hst
    have HWs := hid hWs
    have HO1 := hid hO1
    have HG1 := hid hG1
    have HIh := hid ih
    have HN := hid hn
    have HT := hid hT
    have HTi := hid ht
    have HK := hid hk
    have HTb := hid hTb
    have HAb := hid hab
    have HS1 := hid hs1
    have HAp := hid hap
    clear hTb hab hs0
    rw [HFin.out]
    clear hfin hMf hrun hO1 hG1 hG0 hOW hcr hst hB hW ih ht hk hM hTo hO hap hT
    have hbW : base ≤ W.heap.size := by omega
    rw [hn] at hil
    clear hb hWs hat hs1 hn
    go_enter Try.func24, Try.ntmps24
    go_upto_region 1 with fail
    rw [← HW.out]
    clear c0 c1
    go_upto_region 2 with fail
    go_upto_region 3 with (first | (at_builtin; refine wpList_append_known rfl _ _ 53 rfl _ _ rfl rfl _ V HRUN.out ?_))
    rw [← HAt.out]
    clear t0 t1 t2 t3 t4
    obtain ⟨x0, x1, -, hTo2⟩ := HSt.out V HG1.out.but
    obtain ⟨b, hta, -⟩ := ow_tok hTo2 HN.out (by omega)
    have hncap : n ≤ tc := by
      rcases hTo2.2 with ⟨h2, h3⟩ | ⟨g, c, cur, hv, _, _, hc, _⟩
      · omega
      · simp only [Value.slice.injEq] at hv; omega
    obtain ⟨A, hA⟩ : ∃ A, A = cutK ta tc 1 5 := ⟨_, rfl⟩
    have hsl := fun U => sliceT_l U ta n tc 1 (by omega) hncap
    rw [← hA] at hsl
    simp only [Int.cast_ofNat_Int, Int.natCast_one] at hsl
    have HAx : Hid (2 ≤ n → A = some ⟨b, 5, none⟩) := fun h2 => by rw [hA, hta]; unfold cutK; rw [if_neg (by omega)]; simp [Addr.add]
    have HTa := hid hta
    have hs1 := HS1.out
    rw [← hs1]
    clear hA hTo2 hncap hs1 hta
    go_upto_region 4 with fail
    clear x0 x1 hsl
    go_loopw [1, 31] (TlRel W base a T id k t at_ s0 n) (fun _ v _ => n - (intOf v).toNat)
    case atStart => exact ⟨0, a1, c1_, s0, rfl, rfl, Nat.zero_le _, by simp, HO1.out, HG1.out⟩
    case round =>
      obtain ⟨j, a2, c2, s2, rfl, rfl, hj, hs2, hO2, hG2⟩ := hrel
      rename World => U
      have HO2 := hid hO2
      have HG2 := hid hG2
      have HS2 := hid hs2
      obtain ⟨x0, x1, hTc, hTo⟩ := HSt.out U hG2.but
      obtain ⟨y0, y1, y2, y3, y4⟩ := hTc
      have HTo := hid hTo
      clear hO2 hG2 hs2 hTo
      by_cases hx : j < n - 1
      · have hd : decide ((j : Int) < ((n - 1 : Nat) : Int)) = true := decide_eq_true (by omega)
        obtain ⟨ch, hch⟩ : ∃ ch, T[j + 1]? = some ch := ⟨T[j + 1]'(by have := HN.out; omega), List.getElem?_eq_getElem (by have := HN.out; omega)⟩
        have hAe := HAx.out (by omega)
        obtain ⟨b', hb', htc⟩ := ow_tok HTo.out HN.out (by omega)
        obtain rfl : b' = b := by have := HTa.out; rw [hb'] at this; simpa using this
        have tc_ := htc (j + 1) ch hch
        have e5 : (j + 1) * 5 = 5 + j * 5 := by omega
        rw [e5] at tc_
        obtain ⟨t0, t1, t2, t3, t4⟩ := tc_
        obtain ⟨U1, hU1⟩ : ∃ U1, U1 = U.alloc (.cells #[.int .u64 (ch.hi : Int), .int .u64 (ch.lo : Int), .int .i64 ch.r, .int .u64 (ch.uh : Int), .int .u64 (ch.ul : Int)] 83) := ⟨_, rfl⟩
        have hb1 : Below U.heap.size U U1 := by rw [hU1]; exact below1 _ _
        have HTn : Hid (Tc U1 U.heap.size 0 ch) := by rw [hU1]; exact ⟨by simp [go_sem], by simp [go_sem], by simp [go_sem], by simp [go_sem], by simp [go_sem]⟩
        obtain ⟨n0, n1, n2, n3, n4⟩ := HTn.out
        have z0 := cell_later hb1 y0
        have z1 := cell_later hb1 y1
        have w0 := cell_later hb1 x0
        have w1 := cell_later hb1 x1
        have HU1 := hid hU1
        have HB1 := hid hb1
        have hii : (j : Int) < ((n - 1 : Nat) : Int) := by omega
        have h0i : (0 : Int) ≤ (j : Int) := by omega
        have hwi : wrap64 ((j : Int) + 1) = (j : Int) + 1 := by unfold wrap64; omega
        have HCh := hid hch
        subst hAe
        have hstep : ((T.drop 1).take (j + 1)).foldl (telS T id k t at_) s0 = telS T id k t at_ s2 ch := by rw [fold_take _ _ hch, HS2.out]
        have hG3 : Gr a a2 W U1 := ⟨HG2.out.but.call hb1, HG2.out.on⟩
        have HG3 := hid hG3
        have HStep := hid hstep
        clear hstep hG3 hch hb' htc hb1 hU1 e5
        by_cases h1 : ch.uh = t.hi ∧ ch.ul = t.lo
        · have hq := fun U => eqlWd ch.uh ch.ul t.hi t.lo U
          rw [decide_eq_true h1] at hq
          have hu : ch.u = t.w := by unfold Tn.u Tn.w; rw [h1.1, h1.2]
          have hts : telS T id k t at_ s2 ch = tel T id k s2 ch at_ := by unfold telS; rw [if_pos hu]
          have hlen : (tel T id k s2 ch at_).length ≤ 1048576 := by
            have h5 := fold_le (telS T id k t at_) (telS_len T id k t at_) (T.drop 1) s0 (j + 1)
            rw [HStep.out, hts] at h5
            exact Nat.le_trans h5 HM.out
          have HCall := hid (HIh.out (j + 1) ch s2 at_ U1 base a2 c2 HCh.out (by have := HT.out.behind HTi.out HCh.out hu; have := HK.out; omega) (by rw [← tel_len T id k s2 ch at_]; exact hlen) (HTo.out.later HB1.out) (HO2.out.later HB1.out) (by have := HG2.out.but.size; have := HB1.out.size; omega) (fun l h3 h4 => by
            rcases HG2.out.on l h3 with h5 | h5
            · exact HAp.out l h5 h4
            · have h6 := HTb.out l h4
              have := HWs.out
              omega))
          have HTs : Hid (((T.drop 1).take (j + 1)).foldl (telS T id k t at_) s0 = tel T id k s2 ch at_) := HStep.out.trans hts
          clear h1 hu hts hlen
          go_upto_region 6 with fail
          rw [← HU1.out]
          clear t0 t1 t2 t3 t4 y0 y1 y2 y3 y4 x0 x1
          go_upto_region 8 with (first | (go_at_call 24; refine HCall.out.mono ?_; rintro e u2 ⟨a3, c3, rfl, hO3, hG4⟩; have HO3 := hid hO3; have HG4 := hid hG4; clear hO3 hG4))
          have hfin : TlRel W base a T id k t at_ s0 n (.slice a3 (tel T id k s2 ch at_).length c3) (.int .i64 ((j : Int) + 1)) u2 := ⟨j + 1, a3, c3, _, rfl, by simp, by omega, HTs.out.symm, HO3.out, HG3.out.trans HG4.out⟩
          have HF := hid hfin
          clear hfin
          go_wp2
          exact ⟨HF.out, by simp [intOf]; omega⟩
        · have hq := fun U => eqlWd ch.uh ch.ul t.hi t.lo U
          rw [decide_eq_false h1] at hq
          have hts : telS T id k t at_ s2 ch = s2 := by
            unfold telS
            rw [if_neg]
            intro e
            unfold Tn.u Tn.w at e
            exact h1 ⟨congrArg Prod.fst e, congrArg Prod.snd e⟩
          have hfin : TlRel W base a T id k t at_ s0 n (.slice a2 s2.length c2) (.int .i64 ((j : Int) + 1)) U1 := ⟨j + 1, a2, c2, s2, rfl, by simp, by omega, (HStep.out.trans hts).symm, HO2.out.later HB1.out, HG3.out⟩
          have HF := hid hfin
          clear hfin h1 hts
          go_upto_region 6 with fail
          rw [← HU1.out]
          clear t0 t1 t2 t3 t4 y0 y1 y2 y3 y4 x0 x1
          go_wp2
          exact ⟨HF.out, by simp [intOf]; omega⟩
      · obtain rfl : j = n - 1 := by omega
        have hd : decide (((n - 1 : Nat) : Int) < ((n - 1 : Nat) : Int)) = false := by simp
        have hs2 := HS2.out
        rw [List.take_of_length_le (by rw [List.length_drop]; have := HN.out; omega)] at hs2
        have hfin : TlOut w base a ((T.drop 1).foldl (telS T id k t at_) s0) (.returned (.slice a2 s2.length c2)) U := ⟨a2, c2, by rw [← hs2], by rw [← hs2]; exact HO2.out, ⟨(But.of HB.out).trans HG2.out.but, fun l hl => by
          rcases HG2.out.on l hl with h5 | h5
          · exact .inl h5
          · exact .inr (Nat.le_trans HB.out.size h5)⟩⟩
        have HF := hid hfin
        clear hfin hs2
        go_wp2
        go_ret
        exact HF.out
end
end Go.Proofs.Ytffmodpgddecnaa.V.E
