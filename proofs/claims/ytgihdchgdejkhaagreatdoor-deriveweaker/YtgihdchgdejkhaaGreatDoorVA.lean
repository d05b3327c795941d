import Derived.RangeFuncNested
import Derived.RangeFuncBound
import Derived.RangeFuncCalls
import Derived.RangeFuncLeaves
import Derived.Shelf.Abstract
import Derived.Shelf.RegionOpen
import Derived.OwnWalkIn
import Derived.TacticsInMore
import Derived.LoopNIn
import Derived.LoopIn
import Derived.Test.YtgihdchgdejkhaaGreatDoorV9
import Derived.Test.YtgihdchgdejkhaaGreatDoorMW
import Derived.Laws.AppendOwnNone
import Derived.Maps.AppendAt
namespace Go.Proofs.YtgihdchgdejkhaaGreatDoor
open Go.RowKit Go.Shelf H
set_option linter.unusedVariables false

/-! ### Rows whose elements take k cells -/
structure Cr (w : World) (k : Nat) (b : Option Addr) (m c : Nat) (M : List Value) : Prop where
  len : M.length = m * k
  none_ : b = none → m = 0 ∧ c = 0
  cells : ∀ x, b = some x → ∀ j u, M[j]? = some u → w.cell? (x.add j) = some u
  one : ∀ u ∈ M, u.oneCell' = true
theorem append_k (t e : TypeId) (z : Value) (k by_ : Nat) (ht : Tryz.prog.underlying t = some (.slice e)) (hinf : (Tryz.prog.info? e).map (fun i => (i.zero, i.size, i.bytes)) = some (some z, k, by_)) (hzs : z.cells.size = k) (hk : 0 < k) (hby : 0 < by_)
    {w : World} {base : Nat} {a : Option Addr} {n cap : Nat} {L : List Value} {b : Option Addr} {m c : Nat} {M : List Value} (h : w.ownsRow base e k (.slice a n cap) n L) (r : Cr w k b m c M) (hb : base ≤ w.heap.size) (hr : (n + m) * by_ ≤ 140737488355328) :
    ∃ a' cap' w', (Builtin.append_ #[t, t] t #[.slice a n cap, .slice b m c]).run Tryz.prog w = .ok (.slice a' (n + m) cap') w' ∧ w'.ownsRow base e k (.slice a' (n + m) cap') (n + m) (L ++ M) ∧ Gr a a' w w' := by
  obtain ⟨i, hi, hz0, hz1, hz2⟩ := info_parts hinf
  have hnm : n + m ≤ 140737488355328 := Nat.le_trans (Nat.le_mul_of_pos_right _ hby) hr
  cases b with
  | none =>
    obtain ⟨rfl, rfl⟩ := r.none_ rfl
    have hM : M = [] := List.eq_nil_of_length_eq_zero (by have := r.len; omega)
    subst hM
    have hr := run_append_owned_none (P := Tryz.prog) (w := w) base t t e i k ht hi _ n _ h
    exact ⟨a, cap, w, hr, by simpa using h, Gr.refl _ _⟩
  | some x =>
    obtain ⟨v', w', hr, h2, h3, _, h5⟩ := run_append_own_at (P := Tryz.prog) w base t t e i _ k by_ ht hi hz0 hz1 hz2 hzs hk _ n _ h x m c M r.len (r.cells x rfl) r.one (by unfold maxLen; omega) hr hb
    obtain ⟨a', cap', rfl⟩ : ∃ a' cap', v' = .slice a' (n + m) cap' := by
      rcases h2.2 with ⟨h, h'⟩ | ⟨g', cap', _, h, _⟩
      · exact ⟨.none, 0, by rw [h, h']⟩
      · exact ⟨_, cap', h⟩
    refine ⟨a', cap', w', hr, h2, ⟨h3.os, h3.tape, h3.output, h3.size, fun j hj hn => h3.block j hj (fun e => hn (Blk.of.1 e.symm))⟩, fun j hj => ?_⟩
    rcases h5 with h5 | h5
    · rw [Blk.of.2 hj] at h5
      exact .inl (Blk.of.1 h5.symm)
    · rw [Blk.of.2 hj] at h5
      right
      simp at h5
      omega
/-- The one element of a literal. -/
theorem Cr.lit (w : World) (e : TypeId) (M : List Value) (h1 : ∀ u ∈ M, u.oneCell' = true) : Cr (w.alloc (Obj.cells M.toArray e)) M.length (some ⟨w.heap.size, 0, none⟩) 1 1 M :=
  ⟨by simp, fun h => (by cases h), fun x hx j u hu => by
    cases hx
    rw [addr_add0]
    simp only [World.cell?, World.alloc, Array.getElem?_push_size]
    simpa using hu, h1⟩
/-- A row of k cells an element, in memory of its own. -/
def Ow (w : World) (base : Nat) (e : TypeId) (k : Nat) (a : Option Addr) (n cap : Nat) (L : List Value) : Prop := w.ownsRow base e k (.slice a n cap) n L
theorem Ow.but {S : Nat → Prop} {w w' : World} {base : Nat} {e : TypeId} {k : Nat} {a : Option Addr} {n cap : Nat} {L : List Value} (h : Ow w base e k a n cap L) (hb : But S w w') (hn : ∀ j, Blk a j → ¬ S j) : Ow w' base e k a n cap L := own_but hb h (fun j hj => hn j (Blk.of.1 hj))
theorem Ow.later {w w' : World} {base : Nat} {e : TypeId} {k : Nat} {a : Option Addr} {n cap : Nat} {L : List Value} (h : Ow w base e k a n cap L) (hb : Below w.heap.size w w') : Ow w' base e k a n cap L := h.but (S := fun _ => False) (But.of hb) (fun _ _ h => h)
theorem Ow.mono {w : World} {base b : Nat} {e : TypeId} {k : Nat} {a : Option Addr} {n cap : Nat} {L : List Value} (h : Ow w base e k a n cap L) (hb : b ≤ base) : Ow w b e k a n cap L := own_mono h hb
theorem Ow.blk {w : World} {base : Nat} {e : TypeId} {k : Nat} {a : Option Addr} {n cap : Nat} {L : List Value} (h : Ow w base e k a n cap L) : ∀ j, Blk a j → base ≤ j ∧ j < w.heap.size := fun j hj => own_block h j (Blk.of.2 hj)
theorem Ow.nil (w : World) (base : Nat) (e : TypeId) (k : Nat) : Ow w base e k none 0 0 [] := ⟨by simp, .inl ⟨rfl, rfl⟩⟩
theorem Ow.cells {w : World} {base : Nat} {e : TypeId} {k : Nat} {a : Option Addr} {n cap : Nat} {L : List Value} (h : Ow w base e k a n cap L) {j : Nat} (hj : Blk a j) : ∃ cs t z, w.heap[j]? = some (.cells cs t z) := by
  rcases h.2 with ⟨h1, _⟩ | ⟨g, c, cur, hv, hg, hh, r⟩
  · simp only [Value.slice.injEq] at h1
    obtain ⟨x, hx, _⟩ := hj
    rw [h1.1] at hx
    cases hx
  · simp only [Value.slice.injEq] at hv
    obtain ⟨x, hx, rfl⟩ := hj
    rw [hv.1] at hx
    cases hx
    exact ⟨_, _, _, hh⟩
theorem Ow.put {w : World} {base : Nat} {e : TypeId} {k : Nat} {a : Option Addr} {n cap : Nat} {L : List Value} (h : Ow w base e k a n cap L) {D : Nat} {ds : List Deferred} (hK : w.heap[D]? = some (.deferred (some ds))) : Ow (w.putObj D (.deferred none)) base e k a n cap L := ownsRow_putObj h _ hK rfl

/-- The blocks of a list that a variable holds, and the variable. -/
def BoxFp (B : Nat) (W : World) (k : Nat) : Prop := k = B ∨ ∃ a n c, W.cell? ⟨B, 0, none⟩ = some (.slice a n c) ∧ Blk a k
/-- A list that a variable holds. -/
def BoxK (B : Nat) (e : TypeId) (k : Nat) (W : World) (n : Nat) (L : List Value) : Prop := ∃ a c, Lies W ⟨B, 0, none⟩ (.slice a n c) ∧ Ow W (B + 1) e k a n c L
theorem BoxK.grown {B C : Nat} {e : TypeId} {k n : Nat} {L : List Value} {W W' : World} {row : Option Nat} (h : BoxK B e k W n L) (hg : W.grownBy W' row) (hr : ∀ r, row = some r → C ≤ r ∧ ∃ o, W.heap[r]? = some o ∧ o.isCells = false) : BoxK B e k W' n L := by
  obtain ⟨a, c, hl, hO⟩ := h
  refine ⟨a, c, ⟨cell_kept hl.1 hg (fun r e => (hr r e).2), (frozen_kept hl.1 hg (fun r e => (hr r e).2)).trans hl.2⟩, hO.but (but_grown hg) (fun j hj e => ?_)⟩
  obtain ⟨_, o, ho, hc⟩ := hr j e
  obtain ⟨cs, t, z, hh⟩ := hO.cells hj
  rw [ho] at hh
  cases hh
  cases hc
theorem boxFp_first {w : World} {B : Nat} (hl : w.cell? ⟨B, 0, none⟩ = some (.slice none 0 0)) (W : World) (hW : Below w.heap.size w W) (k : Nat) (hk : BoxFp B W k) : k < w.heap.size := by
  have hB := World.block_lt_of_cell? _ _ hl
  rcases hk with rfl | ⟨a, n, c, h2, hk⟩
  · exact hB
  · rw [cell_later hW hl] at h2
    cases h2
    obtain ⟨x, hx, _⟩ := hk
    cases hx
theorem boxFp_put {B C : Nat} (hB : B < C) (W : World) (L : Nat) (o o' : Obj) (hL : C ≤ L) (h : W.heap[L]? = some o) (ho : o.isCells = false) (k : Nat) (hk : BoxFp B (W.putObj L o') k) : BoxFp B W k := by
  rcases hk with rfl | ⟨a, n, c, h2, hk⟩
  · exact .inl rfl
  · refine .inr ⟨a, n, c, ?_, hk⟩
    have hne : (W.putObj L o').heap[B]? = W.heap[B]? := World.putObj_heap_other (by omega)
    rw [World.cell?_of_block (w := W) (w' := W.putObj L o') hne] at h2
    exact h2
/-- One more behind the list's end. -/
theorem box_append (t e : TypeId) (z : Value) (k by_ : Nat) (ht : Tryz.prog.underlying t = some (.slice e)) (hinf : (Tryz.prog.info? e).map (fun i => (i.zero, i.size, i.bytes)) = some (some z, k, by_)) (hzs : z.cells.size = k) (hk : 0 < k) (hby : 0 < by_) (hby2 : by_ ≤ 1024)
    {B : Nat} {W : World} {n : Nat} {L : List Value} {a : Option Addr} {c : Nat} (hl : Lies W ⟨B, 0, none⟩ (.slice a n c)) (hO : Ow W (B + 1) e k a n c L) (M : List Value) (hM : M.length = k) (hM1 : ∀ u ∈ M, u.oneCell' = true) (hn : n ≤ 2048) :
    ∃ a' c' w3, (Builtin.append_ #[t, t] t #[.slice a n c, .slice (some ⟨W.heap.size, 0, none⟩) 1 1]).run Tryz.prog (W.alloc (Obj.cells M.toArray e)) = .ok (.slice a' (n + 1) c') w3 ∧
      Lies w3 ⟨B, 0, none⟩ (.slice a n c) ∧ ∀ w4, w4 = w3.setCell ⟨B, 0, none⟩ (.slice a' (n + 1) c') → w4.cell? ⟨B, 0, none⟩ = some (.slice a' (n + 1) c') ∧ BoxK B e k w4 (n + 1) (L ++ M) ∧ But (BoxFp B W) W w4 ∧ (∀ j, BoxFp B w4 j → BoxFp B W j ∨ W.heap.size ≤ j) ∧ (∀ j, BoxFp B W j → B ≤ j ∧ ∃ cs t z, W.heap[j]? = some (.cells cs t z)) := by
  have hBl : B < W.heap.size := World.block_lt_of_cell? _ _ hl.1
  have hcr := Cr.lit W e M hM1
  rw [hM] at hcr
  obtain ⟨a', c', w3, hrun, hO3, hG0⟩ := append_k t e z k by_ ht hinf hzs hk hby (hO.later (below1 W (Obj.cells M.toArray e))) hcr (by simp; omega) (by
    have : (n + 1) * by_ ≤ 2049 * 1024 := Nat.mul_le_mul (by omega) hby2
    omega)
  have hG := hG0.pre (below1 W (Obj.cells M.toArray e))
  have hO3 : Ow w3 (B + 1) e k a' (n + 1) c' (L ++ M) := hO3
  have hl3 : Lies w3 ⟨B, 0, none⟩ (.slice a n c) := hl.but hG.but (fun hb => by have := (hO.blk B hb).1; omega)
  have hfp : ∀ j, BoxFp B W j → j = B ∨ Blk a j := fun j hj => by
    rcases hj with rfl | ⟨a2, n2, c2, h2, hj⟩
    · exact .inl rfl
    · rw [hl.1] at h2
      cases h2
      exact .inr hj
  refine ⟨a', c', w3, hrun, hl3, ?_⟩
  rintro w4 rfl
  have hb4 : But (BoxFp B W) W (w3.setCell ⟨B, 0, none⟩ (.slice a' (n + 1) c')) :=
    (hG.but.mono (fun j hj => .inr ⟨a, _, c, hl.1, hj⟩)).setCell (p := ⟨B, 0, none⟩) (.inl rfl) _
  have hl4 := hl3.put (u := .slice a' (n + 1) c')
  have hO4 : Ow (w3.setCell ⟨B, 0, none⟩ (.slice a' (n + 1) c')) (B + 1) e k a' (n + 1) c' (L ++ M) :=
    hO3.but (S := (· = B)) ((But.refl (· = B) _).setCell (p := ⟨B, 0, none⟩) (show B = B from rfl) _) (fun j hj e => by have := (hO3.blk j hj).1; omega)
  refine ⟨hl4.1, ⟨a', c', hl4, hO4⟩, hb4, fun j hj => ?_, fun j hj => ?_⟩
  · rcases hj with rfl | ⟨a2, n2, c2, h2, hj⟩
    · exact .inl (.inl rfl)
    · rw [hl4.1] at h2
      cases h2
      rcases hG.on j hj with h3 | h3
      · exact .inl (.inr ⟨a, _, c, hl.1, h3⟩)
      · exact .inr h3
  · rcases hfp j hj with rfl | h3
    · refine ⟨Nat.le_refl _, ?_⟩
      have := hl.1
      unfold World.cell? at this
      cases ho : W.heap[j]? with
      | none => rw [ho] at this; cases this
      | some o =>
        rw [ho] at this
        cases o with
        | cells cs t z => exact ⟨cs, t, z, rfl⟩
        | _ => simp at this
    · exact ⟨by have := (hO.blk j h3).1; omega, hO.cells h3⟩
/-- Capabilities in a row. -/
def encC (x : Cp) : List Value := [.int .i64 x.1, .int .u64 (x.2.1 : Int), .int .u64 (x.2.2 : Int)]
def caps (K : List Cp) : List Value := K.flatMap encC
theorem encC_one (x : Cp) : ∀ v ∈ encC x, v.oneCell' = true := by
  intro v hv
  simp only [encC, List.mem_cons, List.not_mem_nil, or_false] at hv
  rcases hv with rfl | rfl | rfl <;> rfl
theorem caps_snoc (K : List Cp) (x : Cp) : caps (K ++ [x]) = caps K ++ encC x := by simp [caps]
theorem info36 : (Tryz.prog.info? 36).map (fun i => (i.zero, i.size, i.bytes)) = some (some (.agg #[.int .i64 0, .int .u64 0, .int .u64 0]), 3, 24) := by kernel_rfl
/-- Tokens in a row. -/
abbrev Tok := Cp × Int × Int
def encT (x : Tok) : List Value := [.int .i64 x.1.1, .int .u64 (x.1.2.1 : Int), .int .u64 (x.1.2.2 : Int), .int .i64 x.2.1, .int .i64 x.2.2]
def toks (K : List Tok) : List Value := K.flatMap encT
theorem encT_one (x : Tok) : ∀ v ∈ encT x, v.oneCell' = true := by
  intro v hv
  simp only [encT, List.mem_cons, List.not_mem_nil, or_false] at hv
  rcases hv with rfl | rfl | rfl | rfl | rfl <;> rfl
theorem toks_snoc (K : List Tok) (x : Tok) : toks (K ++ [x]) = toks K ++ encT x := by simp [toks]
theorem info55 : (Tryz.prog.info? 55).map (fun i => (i.zero, i.size, i.bytes)) = some (some (.agg #[.int .i64 0, .int .u64 0, .int .u64 0, .int .i64 0, .int .i64 0]), 5, 40) := by kernel_rfl

/-! ### What a round of Drop does -/
def runC (X : List Tk) : List Int → List Cp
  | [] => []
  | a :: A => (tk X a).1 :: runC (X.set a.toNat tz) A
def runT (T : List (Cp × Int)) (X : List Tk) : List Int → List (Cp × Int)
  | [] => T
  | a :: A => runT (dropT T (tk X a).1) (X.set a.toNat tz) A
theorem runC_snoc : ∀ (A : List Int) (X : List Tk) (a : Int), runC X (A ++ [a]) = runC X A ++ [(tk (zer X A) a).1]
  | [], X, a => rfl
  | b :: A, X, a => by show (tk X b).1 :: runC _ (A ++ [a]) = _; rw [runC_snoc]; rfl
theorem runT_snoc : ∀ (A : List Int) (T : List (Cp × Int)) (X : List Tk) (a : Int), runT T X (A ++ [a]) = dropT (runT T X A) (tk (zer X A) a).1
  | [], T, X, a => rfl
  | b :: A, T, X, a => by show runT _ _ (A ++ [a]) = _; rw [runT_snoc]; rfl
theorem zer_or : ∀ (A : List Int) (X : List Tk) (a : Int), 0 ≤ a → (∀ x ∈ A, 0 ≤ x) → tk (zer X A) a = tk X a ∨ tk (zer X A) a = tz
  | [], X, a, _, _ => .inl rfl
  | b :: A, X, a, h0, hA => by
    unfold zer
    have hb := hA b (List.mem_cons_self ..)
    rcases zer_or A (X.set b.toNat tz) a h0 (fun x hx => hA x (List.mem_cons_of_mem _ hx)) with h | h
    · by_cases e : a = b
      · rw [h]
        by_cases hl : b.toNat < X.length
        · right
          have : (b.toNat : Int) = b := by omega
          have h2 := tk_set_same (X := X) tz hl
          rw [this] at h2
          rw [e]; exact h2
        · left
          rw [List.set_eq_of_length_le (by omega)]
      · left
        rw [h]
        exact tk_set_other tz h0 (by omega)
    · exact .inr h
theorem snoc_ind {P : List Int → Prop} (h0 : P []) (h1 : ∀ A a, P A → P (A ++ [a])) : ∀ A, P A := fun A => by
  have : ∀ B : List Int, P B.reverse := fun B => by
    induction B with
    | nil => exact h0
    | cons b B ih => rw [List.reverse_cons]; exact h1 _ _ ih
  have h := this A.reverse
  rwa [List.reverse_reverse] at h
theorem runC_eq {X : List Tk} : ∀ (A : List Int), (∀ a ∈ A, 0 ≤ a) → A.Nodup → runC X A = A.map (fun k => (tk X k).1) :=
  snoc_ind (P := fun A => (∀ a ∈ A, 0 ≤ a) → A.Nodup → runC X A = A.map (fun k => (tk X k).1)) (fun _ _ => rfl) (fun A a ih h0 hn => by
    rw [List.nodup_append] at hn
    rw [runC_snoc, ih (fun x hx => h0 x (List.mem_append_left _ hx)) hn.1, zer_tk A X a (h0 a (by simp)) (fun x hx => h0 x (List.mem_append_left _ hx)) (fun hm => hn.2.2 a hm a (by simp) rfl)]
    simp)
theorem runT_eq {m : Nat} {X : List Tk} {l : Fo} (h : Inv m X l) : ∀ (A : List Int), (∀ a ∈ A, a ∈ nums l) → A.Nodup → runT (pairs X l) X A = pairs X (cuts l A) :=
  snoc_ind (P := fun A => (∀ a ∈ A, a ∈ nums l) → A.Nodup → runT (pairs X l) X A = pairs X (cuts l A)) (fun _ _ => by rw [cuts_nil]; rfl) (fun A a ih h0 hn => by
    rw [List.nodup_append] at hn
    have hA : ∀ x ∈ A, x ∈ nums l := fun x hx => h0 x (List.mem_append_left _ hx)
    have ha := h0 a (by simp)
    rw [runT_snoc, ih hA hn.1, zer_tk A X a (nums_nn h.ok ha) (fun x hx => nums_nn h.ok (hA x hx)) (fun hm => hn.2.2 a hm a (by simp) rfl), ← cuts_snoc]
    unfold dropT pairs cut
    rw [List.filter_map]
    congr 1
    refine List.filter_congr (fun x hx => ?_)
    have hxl := (mem_cuts.1 hx).1
    simp only [Function.comp]
    by_cases e : x.1 = a
    · rw [decide_eq_false (by simp [e]), decide_eq_false (by simp [e])]
    · have h1 : (tk X x.1).1 ≠ (tk X a).1 := fun hc => e (h.one _ (mem_nums.2 ⟨x.2, hxl⟩) _ ha hc)
      have h2 : x.1 ≠ a := e
      rw [decide_eq_true h1, decide_eq_true h2])
theorem cuts_congr {l : Fo} {A B : List Int} (h : ∀ x, x ∈ A ↔ x ∈ B) : cuts l A = cuts l B := by
  unfold cuts
  refine List.filter_congr (fun x _ => ?_)
  by_cases e : x.1 ∈ A
  · rw [decide_eq_false (fun hn => hn e), decide_eq_false (fun hn => hn ((h _).1 e))]
  · have h1 : x.1 ∉ B := fun hn => e ((h _).2 hn)
    rw [decide_eq_true e, decide_eq_true h1]

/-! ### fell, down -/
set_option maxRecDepth 100000 in
set_option maxHeartbeats 2000000 in
theorem fell_any {w : World} {A : Ad} {kn mo : Nat} {T : List (Cp × Int)} {X : List Tk} {l : Fo} (h : Cm w A kn mo T X l) (n : Int) :
    Calls Tryz.prog 76 #[.pointer (some ⟨A.g, 2, none⟩), .int .i64 n] w fun e w' => e = .returned (.tuple #[]) ∧ Cm w' A kn mo T X (cuts l (G true l n)) ∧ But (· = A.kb) w w' := by
  have hok := hid h.kin.ok
  have hmo := h.small
  have hfl : (Fl l n).length ≤ mo := by rw [Fl_len hok.out]; exact G_len hok.out _ _
  have hkb : A.kb < w.heap.size := h.lt _ (.inr (.inr (.inr (.inr (.inr rfl)))))
  have HC : Hid (cuts l (G true l n) = cuts l (Fl l n)) := cuts_congr (fun x => (mem_Fl hok.out).symm)
  have hF := hid (fall_any h.kin n)
  have x2 := h.c2
  have HH := hid h
  unfold Hid at HC
  rw [HC]
  clear h HC
  go_enter Tryz.func76, Tryz.ntmps76
  go_upto_region 1 with (first | (go_at_call 109; refine hF.out.mono ?_; rintro e w1 ⟨a, k, cap, rfl, hO, hB⟩; have hlk := hO.len; rw [ints_length] at hlk; subst hlk; have HO := hid hO; have HB := hid hB; clear hO hB))
  go_loopw [13] (fun t W => ∃ i : Nat, t = .int .i64 (i : Int) ∧ i ≤ (Fl l n).length ∧ Cm W A kn mo T X (cuts l ((Fl l n).take i)) ∧ But (· = A.kb) w1 W) (fun t _ => (Fl l n).length - (intOf t).toNat)
  case atStart => exact ⟨0, rfl, Nat.zero_le _, by rw [List.take_zero, cuts_nil]; exact HH.out.later HB.out, But.refl _ _⟩
  case round =>
    obtain ⟨i, rfl, hi, hM, hbw⟩ := hrel
    by_cases hlt : i < (Fl l n).length
    · have hOr := HO.out.but hbw (fun j hj e => by have := HO.out.blk j hj; omega)
      obtain ⟨ga, rfl⟩ := hOr.form (by omega)
      obtain ⟨_, e1, hL1⟩ := hOr.lies rfl (ints_get (Fl l n) i hlt)
      cases e1
      have y1 := hL1.1
      have z2 := hM.c2
      have hst := fall_step hok.out (n := n) (List.getElem?_eq_getElem hlt)
      have hcut := cut_any hM.kin (Fl l n)[i]
      have hcl : cutL (cuts l ((Fl l n).take i)) (Fl l n)[i] = cuts l ((Fl l n).take (i + 1)) := by
        unfold cutL; rw [if_pos ⟨hst.1, hst.2.1⟩]; exact hst.2.2
      rw [hcl] at hcut
      have HCUT := hid hcut
      have HM := hid hM
      have HBW := hid hbw
      clear hcut hcl hst hM hbw hOr hL1
      generalize (Fl l n)[i] = x at *
      go_wp2_with (first | (go_at_call 110; refine HCUT.out.mono ?_; rintro e w2 ⟨rfl, hk2, hb2⟩; have HK2 := hid hk2; have HB2 := hid hb2; clear hk2 hb2))
      refine ⟨⟨i + 1, by go_num, by omega, HM.out.setK HB2.out HK2.out, HBW.out.trans HB2.out⟩, by simp [intOf]; omega⟩
    · obtain rfl : i = (Fl l n).length := by omega
      rw [List.take_length] at hM
      have HM := hid hM
      have HBW := hid hbw
      clear hM hbw
      go_wp2
      go_end0
      exact ⟨rfl, HM.out, (But.of HB.out).trans HBW.out⟩
set_option maxRecDepth 100000 in
set_option maxHeartbeats 1000000 in
theorem down_any {w : World} {A : Ad} {kn mo : Nat} {T : List (Cp × Int)} {X : List Tk} {l : Fo} (h : Cm w A kn mo T X l) (n : Int) :
    Calls Tryz.prog 30 #[.pointer (some ⟨A.g, 2, none⟩), .int .i64 n] w fun e w' => ∃ b0, e = .returned (.func (.func 121) #[] #[.pointer (some ⟨b0, 0, none⟩)]) ∧ Sq w' true w.heap.size b0 A.kg n ∧ Below w.heap.size w w' := by
  have hc := hid (make_any true A.kg n w)
  change Hid (Calls Tryz.prog 64 _ w _) at hc
  have x2 := h.c2
  clear h
  go_enter Tryz.func30, Tryz.ntmps30
  go_wp2_with (first | (go_at_call 64; refine hc.out.mono ?_; rintro e w1 ⟨b0, rfl, hs, hb⟩; have HS := hid hs; have HB := hid hb; clear hs hb))
  go_ret
  exact ⟨b0, rfl, HS.out, HB.out⟩
end Go.Proofs.YtgihdchgdejkhaaGreatDoor
