import Derived.Test.YthlojdclncikiaaK1
import Derived.Test.YthlojdclncikiaaC2
namespace Go.Proofs.Ythlojdclncikiaa
open Go.RowKit
set_option linter.unusedVariables false
set_option linter.unusedSimpArgs false

/-- A put's four cells. -/
def encU (x : Pu) : List Value := [.int .i64 x.1.1, .int .u64 (x.1.2.1 : Int), .int .u64 (x.1.2.2 : Int), .int .i64 x.2]
def pus (L : List Pu) : List Value := L.flatMap encU
theorem encU_one (x : Pu) : ∀ v ∈ encU x, v.oneCell' = true := by
  intro v hv
  simp only [encU, List.mem_cons, List.not_mem_nil, or_false] at hv
  rcases hv with rfl | rfl | rfl | rfl <;> rfl
theorem pus_snoc (L : List Pu) (x : Pu) : pus (L ++ [x]) = pus L ++ encU x := by simp [pus]
theorem pus_length (L : List Pu) : (pus L).length = L.length * 4 := by
  induction L with
  | nil => rfl
  | cons a r ih => simp only [pus, List.flatMap_cons, List.length_append] at ih ⊢; rw [ih]; simp [encU]; omega
theorem info66 : (Try.prog.info? 66).map (fun i => (i.zero, i.size, i.bytes)) = some (some (.agg #[.int .i64 0, .int .u64 0, .int .u64 0, .int .i64 0]), 4, 32) := by kernel_rfl
/-- A put in memory. -/
structure Cu (w : World) (b o : Nat) (x : Pu) : Prop where
  c0 : w.cell? ⟨b, o, none⟩ = some (.int .i64 x.1.1)
  c1 : w.cell? ⟨b, o + 1, none⟩ = some (.int .u64 (x.1.2.1 : Int))
  c2 : w.cell? ⟨b, o + 2, none⟩ = some (.int .u64 (x.1.2.2 : Int))
  c3 : w.cell? ⟨b, o + 3, none⟩ = some (.int .i64 x.2)
theorem Cu.but {S : Nat → Prop} {w w' : World} {b o : Nat} {x : Pu} (h : Cu w b o x) (hb : But S w w') (hn : ¬ S b) : Cu w' b o x := ⟨cell_but hb h.c0 hn, cell_but hb h.c1 hn, cell_but hb h.c2 hn, cell_but hb h.c3 hn⟩
theorem Cu.later {w w' : World} {b o : Nat} {x : Pu} (h : Cu w b o x) (hb : Below w.heap.size w w') : Cu w' b o x := h.but (S := fun _ => False) (But.of hb) (fun h => h)
/-- The document's cache in memory. -/
structure Rc (w : World) (base r s n k : Nat) (pa : Option Addr) (cap : Nat) (L : List Pu) (E : Nat) (hi mi : Int) : Prop where
  c0 : w.cell? ⟨r, 0, none⟩ = some (.int .i64 (s : Int))
  c1 : w.cell? ⟨r, 1, none⟩ = some (.int .i64 (n : Int))
  c2 : w.cell? ⟨r, 2, none⟩ = some (.int .i64 (k : Int))
  ce : Lies w ⟨r, 3, none⟩ (.int .i64 (E : Int))
  ch : Lies w ⟨r, 4, none⟩ (.int .i64 hi)
  cm : Lies w ⟨r, 5, none⟩ (.int .i64 mi)
  cl : Lies w ⟨r, 6, none⟩ (.slice pa L.length cap)
  own : Ow w base 66 4 pa L.length cap (pus L)
  ap : ∀ j, Blk pa j → j ≠ r
  lo : base ≤ r
  ls : s ≤ 16
  n1 : 1 ≤ n
  n4 : n ≤ 4
variable {w w' : World} {base r s n k : Nat} {pa : Option Addr} {cap : Nat} {L : List Pu} {E : Nat} {hi mi : Int}
theorem Rc.lt (h : Rc w base r s n k pa cap L E hi mi) : r < w.heap.size := World.block_lt_of_cell? _ _ h.c0
theorem Rc.hb (h : Rc w base r s n k pa cap L E hi mi) : base ≤ w.heap.size := by have := h.lo; have := h.lt; omega
theorem Rc.but {S : Nat → Prop} (h : Rc w base r s n k pa cap L E hi mi) (hb : But S w w') (h1 : ¬ S r) (h2 : ∀ j, Blk pa j → ¬ S j) : Rc w' base r s n k pa cap L E hi mi :=
  ⟨cell_but hb h.c0 h1, cell_but hb h.c1 h1, cell_but hb h.c2 h1, h.ce.but hb h1, h.ch.but hb h1, h.cm.but hb h1, h.cl.but hb h1, h.own.but hb h2, h.ap, h.lo, h.ls, h.n1, h.n4⟩
theorem Rc.later (h : Rc w base r s n k pa cap L E hi mi) (hb : Below w.heap.size w w') : Rc w' base r s n k pa cap L E hi mi := h.but (S := fun _ => False) (But.of hb) (fun h => h) (fun _ _ h => h)
theorem Rc.at_ (h : Rc w base r s n k pa cap L E hi mi) {i : Nat} {x : Pu} (hx : L[i]? = some x) : ∃ b, pa = some ⟨b, 0, none⟩ ∧ Cu w b (i * 4) x := by
  have hi := (List.getElem?_eq_some_iff.1 hx).1
  obtain ⟨b, e, hc⟩ := h.own.at_ (by omega)
  have hg := fun d (hd : d < 4) => cls_get (enc := encU) (k := 4) (fun _ => rfl) L i d x hx hd
  exact ⟨b, e, hc _ _ (hg 0 (by omega)), hc _ _ (hg 1 (by omega)), hc _ _ (hg 2 (by omega)), hc _ _ (hg 3 (by omega))⟩
/-- What a call may write: the struct and the list. -/
structure Wq (w w' : World) (r : Nat) (pa pa' : Option Addr) : Prop where
  but : But (fun j => j = r ∨ Blk pa j) w w'
  on : ∀ j, Blk pa' j → Blk pa j ∨ w.heap.size ≤ j
theorem Wq.refl (r : Nat) (pa : Option Addr) (h : Below w.heap.size w w') : Wq w w' r pa pa := ⟨But.of h, fun _ h => .inl h⟩
theorem Wq.pre {W : World} {pa' : Option Addr} (hb : Below w.heap.size w W) (h : Wq W w' r pa pa') : Wq w w' r pa pa' :=
  ⟨(But.of hb).trans h.but, fun j hj => (h.on j hj).imp id (fun e => Nat.le_trans hb.size e)⟩
theorem Wq.post {W : World} {pa' : Option Addr} (h : Wq w W r pa pa') (hb : Below W.heap.size W w') : Wq w w' r pa pa' := ⟨h.but.call hb, h.on⟩
theorem Wq.trans {W : World} {pa' pb : Option Addr} (h : Wq w W r pa pa') (k : Wq W w' r pa' pb) : Wq w w' r pa pb :=
  ⟨h.but.comp k.but (fun i hi => by
    rcases hi with e | e
    · exact .inl (.inl e)
    · exact (h.on i e).imp .inr id), fun j hj => by
    rcases k.on j hj with e | e
    · exact h.on j e
    · exact .inr (Nat.le_trans h.but.size e)⟩
/-- One of the counts, or the epoch, is written. -/
theorem Rc.set_e (h : Rc w base r s n k pa cap L E hi mi) (F : Nat) : Rc (w.setCell ⟨r, 3, none⟩ (.int .i64 (F : Int))) base r s n k pa cap L F hi mi :=
  have hn : ∀ j, j ≠ 3 → (w.setCell ⟨r, 3, none⟩ (.int .i64 (F : Int))).cell? ⟨r, j, none⟩ = w.cell? ⟨r, j, none⟩ := fun j hj => World.cell?_setCell_other _ _ _ _ (fun e => hj (by cases e; rfl))
  ⟨by rw [hn _ (by omega)]; exact h.c0, by rw [hn _ (by omega)]; exact h.c1, by rw [hn _ (by omega)]; exact h.c2, h.ce.put, h.ch.other (by simp), h.cm.other (by simp), h.cl.other (by simp), h.own.but ((But.refl (fun x => x = r) w).setCell (p := ⟨r, 3, none⟩) rfl _) (fun j hj => h.ap j hj), h.ap, h.lo, h.ls, h.n1, h.n4⟩
theorem Rc.set_h (h : Rc w base r s n k pa cap L E hi mi) (x : Int) : Rc (w.setCell ⟨r, 4, none⟩ (.int .i64 x)) base r s n k pa cap L E x mi :=
  have hn : ∀ j, j ≠ 4 → (w.setCell ⟨r, 4, none⟩ (.int .i64 x)).cell? ⟨r, j, none⟩ = w.cell? ⟨r, j, none⟩ := fun j hj => World.cell?_setCell_other _ _ _ _ (fun e => hj (by cases e; rfl))
  ⟨by rw [hn _ (by omega)]; exact h.c0, by rw [hn _ (by omega)]; exact h.c1, by rw [hn _ (by omega)]; exact h.c2, h.ce.other (by simp), h.ch.put, h.cm.other (by simp), h.cl.other (by simp), h.own.but ((But.refl (fun x => x = r) w).setCell (p := ⟨r, 4, none⟩) rfl _) (fun j hj => h.ap j hj), h.ap, h.lo, h.ls, h.n1, h.n4⟩
theorem Rc.set_m (h : Rc w base r s n k pa cap L E hi mi) (x : Int) : Rc (w.setCell ⟨r, 5, none⟩ (.int .i64 x)) base r s n k pa cap L E hi x :=
  have hn : ∀ j, j ≠ 5 → (w.setCell ⟨r, 5, none⟩ (.int .i64 x)).cell? ⟨r, j, none⟩ = w.cell? ⟨r, j, none⟩ := fun j hj => World.cell?_setCell_other _ _ _ _ (fun e => hj (by cases e; rfl))
  ⟨by rw [hn _ (by omega)]; exact h.c0, by rw [hn _ (by omega)]; exact h.c1, by rw [hn _ (by omega)]; exact h.c2, h.ce.other (by simp), h.ch.other (by simp), h.cm.put, h.cl.other (by simp), h.own.but ((But.refl (fun x => x = r) w).setCell (p := ⟨r, 5, none⟩) rfl _) (fun j hj => h.ap j hj), h.ap, h.lo, h.ls, h.n1, h.n4⟩
/-- A list is put into the struct. -/
theorem Rc.put {pb : Option Addr} {c : Nat} {M : List Pu} (h : Rc w base r s n k pa cap L E hi mi) (hB : But (Blk pa) w w') (hon : ∀ j, Blk pb j → Blk pa j ∨ w.heap.size ≤ j) (ho : Ow w' base 66 4 pb M.length c (pus M)) :
    Rc (w'.setCell ⟨r, 6, none⟩ (.slice pb M.length c)) base r s n k pb c M E hi mi ∧ Wq w (w'.setCell ⟨r, 6, none⟩ (.slice pb M.length c)) r pa pb := by
  have hn : ¬ Blk pa r := fun e => h.ap r e rfl
  have hap : ∀ j, Blk pb j → j ≠ r := fun j hj => by
    rcases hon j hj with e | e
    · exact h.ap j e
    · have := h.lt; omega
  have hc : ∀ j, j ≠ 6 → (w'.setCell ⟨r, 6, none⟩ (.slice pb M.length c)).cell? ⟨r, j, none⟩ = w'.cell? ⟨r, j, none⟩ := fun j hj => World.cell?_setCell_other _ _ _ _ (fun e => hj (by cases e; rfl))
  exact ⟨⟨by rw [hc _ (by omega)]; exact cell_but hB h.c0 hn, by rw [hc _ (by omega)]; exact cell_but hB h.c1 hn, by rw [hc _ (by omega)]; exact cell_but hB h.c2 hn, (h.ce.but hB hn).other (by simp), (h.ch.but hB hn).other (by simp), (h.cm.but hB hn).other (by simp), (h.cl.but hB hn).put, ho.but ((But.refl (fun x => x = r) w').setCell (p := ⟨r, 6, none⟩) rfl _) (fun j hj => hap j hj), hap, h.lo, h.ls, h.n1, h.n4⟩,
    ⟨(hB.mono (fun j hj => .inr hj)).setCell (.inl rfl) _, hon⟩⟩
/-! ### New -/
theorem Rc.new (w : World) (s n k : Nat) (h1 : s ≤ 16) (h2 : 1 ≤ n) (h3 : n ≤ 4) : Rc (w.alloc (.cells #[.int .i64 (s : Int), .int .i64 (n : Int), .int .i64 (k : Int), .int .i64 0, .int .i64 0, .int .i64 0, .slice none 0 0] 53)) w.heap.size w.heap.size s n k none 0 [] 0 0 0 :=
  ⟨by simp [go_sem], by simp [go_sem], by simp [go_sem], ⟨by simp [go_sem], by simp [go_sem]⟩, ⟨by simp [go_sem], by simp [go_sem]⟩, ⟨by simp [go_sem], by simp [go_sem]⟩, ⟨by simp [go_sem], by simp [go_sem]⟩, Ow.nil _ _ _ _, fun j hj => (by obtain ⟨_, e, _⟩ := hj; cases e), Nat.le_refl _, h1, h2, h3⟩
set_option maxRecDepth 100000 in
theorem rnew_ok (s n k : Nat) (w : World) (h1 : s ≤ 16) (h2 : 1 ≤ n) (h3 : n ≤ 4) (h4 : k ≤ 64) :
    Calls Try.prog 15 #[.int .i64 (s : Int), .int .i64 (n : Int), .int .i64 (k : Int)] w fun e w' => ∃ r, e = .returned (.tuple #[.pointer (some ⟨r, 0, none⟩), .int .i64 0]) ∧ Rc w' w.heap.size r s n k none 0 [] 0 0 0 ∧ Below w.heap.size w w' := by
  have HN := hid (Rc.new w s n k h1 h2 h3)
  have hd1 : decide ((s : Int) < 0) = false := decide_eq_false (by omega)
  have hd2 : decide ((s : Int) > 16) = false := decide_eq_false (by omega)
  have hd3 : decide ((n : Int) < 1) = false := decide_eq_false (by omega)
  have hd4 : decide ((n : Int) > 4) = false := decide_eq_false (by omega)
  have hd5 : decide ((k : Int) < 0) = false := decide_eq_false (by omega)
  have hd6 : decide ((k : Int) > 64) = false := decide_eq_false (by omega)
  clear h1 h2 h3 h4
  go_enter Try.func15, Try.ntmps15
  go_wp2
  exact bodyPost_ret (v := .tuple #[.pointer (some ⟨w.heap.size, 0, none⟩), .int .i64 0]) (by simp [results, Try.results15, go_sem]) rfl ⟨w.heap.size, rfl, HN.out, below1 _ _⟩
/-- May the numbers not be? -/
def badN (s n k : Int) : Prop := s < 0 ∨ 16 < s ∨ n < 1 ∨ 4 < n ∨ k < 0 ∨ 64 < k
set_option maxRecDepth 100000 in
theorem bad_both (s n k : Int) (w : World) (h : badN s n k) :
    (Calls Try.prog 6 #[.int .i64 s, .int .i64 n, .int .i64 k] w fun e w' => e = .returned (.tuple #[.pointer none, .int .i64 16]) ∧ w' = w) ∧ (Calls Try.prog 15 #[.int .i64 s, .int .i64 n, .int .i64 k] w fun e w' => e = .returned (.tuple #[.pointer none, .int .i64 16]) ∧ w' = w) := by
  have hcs : (decide (s < 0) = true) ∨ (decide (s < 0) = false ∧ decide (s > 16) = true) ∨ (decide (s < 0) = false ∧ decide (s > 16) = false ∧ decide (n < 1) = true) ∨ (decide (s < 0) = false ∧ decide (s > 16) = false ∧ decide (n < 1) = false ∧ decide (n > 4) = true) ∨ (decide (s < 0) = false ∧ decide (s > 16) = false ∧ decide (n < 1) = false ∧ decide (n > 4) = false ∧ decide (k < 0) = true) ∨ (decide (s < 0) = false ∧ decide (s > 16) = false ∧ decide (n < 1) = false ∧ decide (n > 4) = false ∧ decide (k < 0) = false ∧ decide (k > 64) = true) := by
    unfold badN at h
    simp only [decide_eq_true_eq, decide_eq_false_iff_not]
    omega
  clear h
  constructor
  · rcases hcs with h1 | ⟨h1, h2⟩ | ⟨h1, h2, h3⟩ | ⟨h1, h2, h3, h4⟩ | ⟨h1, h2, h3, h4, h5⟩ | ⟨h1, h2, h3, h4, h5, h6⟩
    all_goals
      go_enter Try.func6, Try.ntmps6
      go_wp2
      exact bodyPost_ret (v := .tuple #[.pointer none, .int .i64 16]) (by simp [results, Try.results6, go_sem]) rfl ⟨rfl, rfl⟩
  · rcases hcs with h1 | ⟨h1, h2⟩ | ⟨h1, h2, h3⟩ | ⟨h1, h2, h3, h4⟩ | ⟨h1, h2, h3, h4, h5⟩ | ⟨h1, h2, h3, h4, h5, h6⟩
    all_goals
      go_enter Try.func15, Try.ntmps15
      go_wp2
      exact bodyPost_ret (v := .tuple #[.pointer none, .int .i64 16]) (by simp [results, Try.results15, go_sem]) rfl ⟨rfl, rfl⟩
/-! ### set, Turn -/
theorem rem_mod (x N : Nat) : ((x : Int) % (N : Int)) = ((x % N : Nat) : Int) := by omega
set_option maxRecDepth 100000 in
set_option maxHeartbeats 1000000 in
theorem rset_any (h : Rc w base r s n k pa cap L E hi mi) (c : Cp) (hc : okC c) (hs : 0 < s) :
    Calls Try.prog 24 #[.pointer (some ⟨r, 0, none⟩), .agg #[.int .i64 c.1, .int .u64 (c.2.1 : Int), .int .u64 (c.2.2 : Int)]] w fun e w' => e = .returned (.int .u64 (rowN k s c : Int)) ∧ Below w.heap.size w w' := by
  obtain ⟨o, hi, lo⟩ := c
  obtain ⟨h1, h2⟩ := hc
  obtain ⟨w1, hw1⟩ : ∃ w1, w1 = w.alloc (Obj.cells #[.int .i64 o, .int .u64 (hi : Int), .int .u64 (lo : Int)] 34) := ⟨_, rfl⟩
  have hB1 : Below w.heap.size w w1 := by rw [hw1]; exact below1 _ _
  have hh := h.later hB1
  have hC : Hid (∀ U : World, Below w1.heap.size w1 U → (U.cell? ⟨w.heap.size, 0, none⟩ = some (.int .i64 o) ∧ U.cell? ⟨w.heap.size, 1, none⟩ = some (.int .u64 (hi : Int)) ∧ U.cell? ⟨w.heap.size, 2, none⟩ = some (.int .u64 (lo : Int)) ∧ U.cell? ⟨r, 0, none⟩ = some (.int .i64 (s : Int)) ∧ U.cell? ⟨r, 2, none⟩ = some (.int .i64 (k : Int))) ∧ Below w1.heap.size w1 U) := fun U hU =>
    ⟨⟨cell_later hU (by rw [hw1]; simp [go_sem]), cell_later hU (by rw [hw1]; simp [go_sem]), cell_later hU (by rw [hw1]; simp [go_sem]), cell_later hU hh.c0, cell_later hU hh.c2⟩, hU⟩
  have hls := h.ls
  have HM : Hid (rowN k s (o, hi, lo) = lowN (hashN (objN o) hi lo) (k : Int) % s) := rfl
  have hH := fun W => rhash_any o hi lo (k : Int) W h1 h2
  generalize lowN (hashN (objN o) hi lo) (k : Int) = x at HM hH
  have HR := hid (rem_mod x s)
  have hu : IntKind.u64.wrap (s : Int) = (s : Int) := by rw [IntKind.wrap_u64]; omega
  have hz : ¬ s = 0 := by omega
  clear h hh
  go_enter Try.func24, Try.ntmps24
  go_wp2
  rw [← hw1]
  have HB1 := hid hB1
  clear hw1 hB1
  go_region_held3 (fun U => (U.cell? ⟨w.heap.size, 0, none⟩ = some (.int .i64 o) ∧ U.cell? ⟨w.heap.size, 1, none⟩ = some (.int .u64 (hi : Int)) ∧ U.cell? ⟨w.heap.size, 2, none⟩ = some (.int .u64 (lo : Int)) ∧ U.cell? ⟨r, 0, none⟩ = some (.int .i64 (s : Int)) ∧ U.cell? ⟨r, 2, none⟩ = some (.int .i64 (k : Int))) ∧ Below w1.heap.size w1 U) (first | exact hC.out _ (Below.refl _ _).drew | exact hC.out _ hb2.out) (first | (go_at_call 28; refine (hH _).mono ?_; rintro e w2 ⟨rfl, hb2'⟩; have hb2 := hid (below_call (Below.refl w1.heap.size w1).drew hb2')))
  go_wp2
  go_ret
  exact ⟨ret_int (by rw [HM.out]; exact HR.out), below_call HB1.out (And.right (by assumption))⟩
end Go.Proofs.Ythlojdclncikiaa
