import Derived.Test.YticgammbjcdobaaQG
import Derived.Deep.QuietTactic
import Derived.BigQuiet
namespace Go.Proofs.Yticgammbjcdobaa
open Go.RowKit
set_option linter.unusedVariables false
set_option linter.unusedSimpArgs false
/-- A call, its two lists by where they lie. -/
structure Cq where
  op : Int
  b : Int
  sz : Int
  c : Cp
  gv : Bool
  rt : Int
  off : Int
  nn : Int
  d : Sl
  ix : Int
  gs : Sl
abbrev Cq.L (x : Cq) : List Value := [.int .i64 x.op, .int .i64 x.b, .int .i64 x.sz, .int .i64 x.c.o, .int .u64 (x.c.h : Int), .int .u64 (x.c.l : Int), .bool x.gv, .int .i64 x.rt, .int .i64 x.off, .int .i64 x.nn, .slice x.d.a x.d.n x.d.c, .int .i64 x.ix, .slice x.gs.a x.gs.n x.gs.c]
abbrev Cq.v (x : Cq) : Value := .agg #[.int .i64 x.op, .int .i64 x.b, .int .i64 x.sz, .int .i64 x.c.o, .int .u64 (x.c.h : Int), .int .u64 (x.c.l : Int), .bool x.gv, .int .i64 x.rt, .int .i64 x.off, .int .i64 x.nn, .slice x.d.a x.d.n x.d.c, .int .i64 x.ix, .slice x.gs.a x.gs.n x.gs.c]
structure Cq.ok (x : Cq) : Prop where
  op : I64 x.op
  b : I64 x.b
  c : x.c.far
  rt : I64 x.rt
  off : I64 x.off
  ix : I64 x.ix
theorem Row.but {S : Nat → Prop} {w w' : World} {a : Option Addr} {n cap : Nat} {L : List Nat} (h : Row w a n cap L) (hb : But S w w') (hn : ∀ j, Blk a j → ¬ S j) : Row w' a n cap L :=
  ⟨h.len, h.cap_, h.none_, fun x hx j u hu => by
    have hc := h.cells x hx j u hu
    have hbl : (x.add j).block = x.block := by unfold Addr.add; split <;> rfl
    rw [World.cell?_of_block (w := w) (hb.block _ (World.block_lt_of_cell? _ _ hc) (fun hs => hn x.block ⟨x, hx, rfl⟩ (by rw [← hbl]; exact hs)))]
    exact hc, h.small⟩
theorem RI.but {S : Nat → Prop} {w w' : World} {a : Option Addr} {n cap : Nat} {L : List Int} (h : RI w a n cap L) (hb : But S w w') (hn : ∀ j, Blk a j → ¬ S j) : RI w' a n cap L :=
  ⟨h.len, h.cap_, h.none_, fun x hx j u hu => by
    have hc := h.cells x hx j u hu
    have hbl : (x.add j).block = x.block := by unfold Addr.add; split <;> rfl
    rw [World.cell?_of_block (w := w) (hb.block _ (World.block_lt_of_cell? _ _ hc) (fun hs => hn x.block ⟨x, hx, rfl⟩ (by rw [← hbl]; exact hs)))]
    exact hc⟩
abbrev livV (B : Bv) (c : Cp) (ph pl : Nat) (r : Int) : Bv := { B with live := up2 B.live c.o (c.h, c.l) (some ⟨c.h, c.l, ph, pl, r, B.n⟩), ct := B.ct + 1 }
set_option maxRecDepth 100000 in
set_option maxHeartbeats 4000000 in
theorem created_bk (m : Bm) (B : Bv) (x : Cq) (cd nu : Int) (c : Cp) (d : Sl) (w : World) (h : Bk w m B) (hx : x.ok) (hc : c.far) (hnn : I64 B.n) (hl : (B.known x.b).length + 1 ≤ 1000000000) :
    Calls Try.prog 18 #[.pointer (some ⟨m.g, 0, none⟩), x.v, rpV cd c d nu] w fun e w' => e = .returned (.tuple #[]) ∧ ∃ m', Bk w' m' (tellV (livV B c c.h c.l 31) 1 x.b x.b c []) ∧ Tr w w' m m' := by
  obtain ⟨o, ch, cl⟩ := c
  obtain ⟨W, hW⟩ : ∃ W, W = (w.alloc (Obj.cells x.L.toArray 36)).alloc (Obj.cells #[.int .i64 cd, .int .i64 o, .int .u64 (ch : Int), .int .u64 (cl : Int), .slice d.a d.n d.c, .int .i64 nu] 39) := ⟨_, rfl⟩
  have hB : Below w.heap.size w W := by rw [hW]; exact below2 _ _ _
  have HX0 : Hid (Bx W w.heap.size x.L) := by rw [hW]; exact (Bx.new w x.L _).later (below1 _ _)
  have HX1 : Hid (Bx W (w.heap.size + 1) (rpL cd ⟨o, ch, cl⟩ d nu)) := by rw [hW]; have := Bx.new (w.alloc (Obj.cells x.L.toArray 36)) (rpL cd ⟨o, ch, cl⟩ d nu) 39; simp at this; exact this
  have y1 := HX1.out.cell 1 rfl
  have y2 := HX1.out.cell 2 rfl
  have y3 := HX1.out.cell 3 rfl
  have HI := hid (issue_any m B ⟨o, ch, cl⟩ hc ch cl 31 W (h.later hB) hc.2.1 hc.2.2 (by constructor <;> omega) hnn)
  have HLt := hid h.bw.own_lt
  have HB := hid hB
  have HW := hid hW
  have HTe : Hid (∀ U m1, Bk U m1 (livV B ⟨o, ch, cl⟩ ch cl 31) → Calls Try.prog 34 #[.pointer (some ⟨m1.g, 0, none⟩), lkV 0 1 x.b x.b ⟨o, ch, cl⟩, .pointer none] U fun e w' => e = .returned (.tuple #[]) ∧ ∃ m', Bk w' m' (tellV (livV B ⟨o, ch, cl⟩ ch cl 31) 1 x.b x.b ⟨o, ch, cl⟩ []) ∧ Tr U w' m1 m') := fun U m1 h1 => tell_any m1 _ 0 1 x.b x.b ⟨o, ch, cl⟩ none [] U h1 hc hx.b hx.b (by constructor <;> omega) hnn rfl (fun y hy => by cases hy) hl
  obtain ⟨xop, xb, xsz, ⟨xo, xh, xl⟩, xgv, xrt, xoff, xnn, ⟨xda, xdn, xdc⟩, xix, ⟨xga, xgn, xgc⟩⟩ := x
  simp only at HTe HX0 HW ⊢
  clear h hB hW hc hnn hx hl
  go_enter Try.func18, Try.ntmps18
  go_upto_region 1 with fail
  rw [← HW.out]
  go_upto_region 2 with (first | (go_at_call 33; refine HI.out.mono ?_; rintro x w1 ⟨rfl, m1, hb1, ht1⟩; have HB1 := hid hb1; have HT1 := hid ht1; clear hb1 ht1))
  have HY := hid (HX1.out.but HT1.out.bt (fun hj => by have := HLt.out _ hj; omega))
  have HX := hid (HX0.out.but HT1.out.bt (fun hj => by have := HLt.out _ hj; omega))
  clear y1 y2 y3
  have y1 := HY.out.cell 1 rfl
  have y2 := HY.out.cell 2 rfl
  have y3 := HY.out.cell 3 rfl
  have x1 := HX.out.cell 1 rfl
  have hte := HTe.out w1 m1 HB1.out
  rw [HT1.out.g] at hte
  have HTe2 := hid hte
  clear hte
  go_wp2_with (first | (go_at_call 34; refine HTe2.out.mono ?_; rintro x w2 ⟨rfl, m2, hb2, ht2⟩; have HB2 := hid hb2; have HT2 := hid ht2; clear hb2 ht2))
  exact bodyPost_end (v := .tuple #[]) (by simp [results, Try.results18, go_sem]) rfl ⟨rfl, m2, HB2.out, Tr.fore HB.out (HT1.out.trans HT2.out)⟩
set_option maxRecDepth 100000 in
set_option maxHeartbeats 4000000 in
theorem derived_bk (m : Bm) (B : Bv) (x : Cq) (cd nu : Int) (c : Cp) (d : Sl) (w : World) (h : Bk w m B) (hx : x.ok) (hc : c.far) (hnn : I64 B.n) (hl : (B.known x.b).length + 1 ≤ 1000000000) :
    Calls Try.prog 20 #[.pointer (some ⟨m.g, 0, none⟩), x.v, rpV cd c d nu] w fun e w' => e = .returned (.tuple #[]) ∧ ∃ m', Bk w' m' (tellV (livV B c x.c.h x.c.l x.rt) 2 x.b x.b c ((tgV B x.b x.c).getD [])) ∧ Tr w w' m m' := by
  obtain ⟨o, ch, cl⟩ := c
  obtain ⟨W, hW⟩ : ∃ W, W = (w.alloc (Obj.cells x.L.toArray 36)).alloc (Obj.cells #[.int .i64 cd, .int .i64 o, .int .u64 (ch : Int), .int .u64 (cl : Int), .slice d.a d.n d.c, .int .i64 nu] 39) := ⟨_, rfl⟩
  have hB : Below w.heap.size w W := by rw [hW]; exact below2 _ _ _
  have HX0 : Hid (Bx W w.heap.size x.L) := by rw [hW]; exact (Bx.new w x.L _).later (below1 _ _)
  have HX1 : Hid (Bx W (w.heap.size + 1) (rpL cd ⟨o, ch, cl⟩ d nu)) := by rw [hW]; have := Bx.new (w.alloc (Obj.cells x.L.toArray 36)) (rpL cd ⟨o, ch, cl⟩ d nu) 39; simp at this; exact this
  have y1 := HX1.out.cell 1 rfl
  have y2 := HX1.out.cell 2 rfl
  have y3 := HX1.out.cell 3 rfl
  have x4 := HX0.out.cell 4 rfl
  have x5 := HX0.out.cell 5 rfl
  have x7 := HX0.out.cell 7 rfl
  have HI := hid (issue_any m B ⟨o, ch, cl⟩ hc x.c.h x.c.l x.rt W (h.later hB) hx.c.2.1 hx.c.2.2 hx.rt hnn)
  have HLt := hid h.bw.own_lt
  have HB := hid hB
  have HW := hid hW
  have HTl : Hid (∀ U m1, Bk U m1 (livV B ⟨o, ch, cl⟩ x.c.h x.c.l x.rt) → ∃ a, Tls U a ((tgV B x.b x.c).getD []) ∧ (∀ y ∈ (tgV B x.b x.c).getD [], lkOk y) ∧ ∀ V, Below U.heap.size U V → Calls Try.prog 27 #[.pointer (some ⟨m1.g, 0, none⟩), .int .i64 x.b, capV x.c] V fun e w' => e = .returned (.tuple #[.pointer a, .bool (tgV B x.b x.c).isSome]) ∧ Below V.heap.size V w') := fun U m1 h1 => telling_bk m1 (livV B ⟨o, ch, cl⟩ x.c.h x.c.l x.rt) x.b x.c U h1 hx.c hx.b
  have HTe : Hid (∀ U m1 a, Bk U m1 (livV B ⟨o, ch, cl⟩ x.c.h x.c.l x.rt) → Tls U a ((tgV B x.b x.c).getD []) → (∀ y ∈ (tgV B x.b x.c).getD [], lkOk y) → Calls Try.prog 34 #[.pointer (some ⟨m1.g, 0, none⟩), lkV 0 2 x.b x.b ⟨o, ch, cl⟩, .pointer a] U fun e w' => e = .returned (.tuple #[]) ∧ ∃ m', Bk w' m' (tellV (livV B ⟨o, ch, cl⟩ x.c.h x.c.l x.rt) 2 x.b x.b ⟨o, ch, cl⟩ ((tgV B x.b x.c).getD [])) ∧ Tr U w' m1 m') := fun U m1 a h1 h2 h3 => tell_any m1 _ 0 2 x.b x.b ⟨o, ch, cl⟩ a _ U h1 hc hx.b hx.b (by constructor <;> omega) hnn h2 h3 hl
  obtain ⟨xop, xb, xsz, ⟨xo, xh, xl⟩, xgv, xrt, xoff, xnn, ⟨xda, xdn, xdc⟩, xix, ⟨xga, xgn, xgc⟩⟩ := x
  simp only at HTe HTl HI HX0 HW ⊢
  generalize (tgV B xb ⟨xo, xh, xl⟩).getD [] = ls at HTe HTl ⊢
  generalize (tgV B xb ⟨xo, xh, xl⟩).isSome = rb at HTl
  clear h hB hW hc hnn hx hl
  go_enter Try.func20, Try.ntmps20
  go_upto_region 1 with fail
  rw [← HW.out]
  go_upto_region 2 with (first | (go_at_call 33; refine HI.out.mono ?_; rintro x w1 ⟨rfl, m1, hb1, ht1⟩; have HB1 := hid hb1; have HT1 := hid ht1; clear hb1 ht1))
  have HY := hid (HX1.out.but HT1.out.bt (fun hj => by have := HLt.out _ hj; omega))
  have HX := hid (HX0.out.but HT1.out.bt (fun hj => by have := HLt.out _ hj; omega))
  clear y1 y2 y3 x4 x5 x7
  have x1 := HX.out.cell 1 rfl
  have x3 := HX.out.cell 3 rfl
  have x4 := HX.out.cell 4 rfl
  have x5 := HX.out.cell 5 rfl
  obtain ⟨a, ht0, hls0, htl⟩ := HTl.out w1 m1 HB1.out
  rw [HT1.out.g] at htl
  have HTa := hid ht0
  have HLs := hid hls0
  have HTl1 := hid (htl w1 (Below.refl _ _))
  clear htl ht0 hls0 HTl
  go_upto_region 3 with (first | (go_at_call 27; refine HTl1.out.mono ?_; rintro x w2 ⟨rfl, hb2⟩; have HB2 := hid hb2; clear hb2))
  have HY2 := hid (HY.out.later HB2.out)
  have HX2 := hid (HX.out.later HB2.out)
  clear x1 x3 x4 x5
  have y1 := HY2.out.cell 1 rfl
  have y2 := HY2.out.cell 2 rfl
  have y3 := HY2.out.cell 3 rfl
  have x1 := HX2.out.cell 1 rfl
  have hte := HTe.out w2 m1 a (HB1.out.later HB2.out) (HTa.out.later HB2.out) HLs.out
  rw [HT1.out.g] at hte
  have HTe2 := hid hte
  clear hte
  go_wp2_with (first | (go_at_call 34; refine HTe2.out.mono ?_; rintro x w3 ⟨rfl, m2, hb2, ht2⟩; have HB3 := hid hb2; have HT2 := hid ht2; clear hb2 ht2))
  exact bodyPost_end (v := .tuple #[]) (by simp [results, Try.results20, go_sem]) rfl ⟨rfl, m2, HB3.out, Tr.fore HB.out ((HT1.out.later HB2.out).trans HT2.out)⟩
set_option maxRecDepth 100000 in
set_option maxHeartbeats 4000000 in
theorem forget_bk (m : Bm) (B : Bv) (p : Int) (w : World) (h : Bk w m B) (hp : I64 p) :
    Calls Try.prog 19 #[.pointer (some ⟨m.g, 0, none⟩), .int .i64 p] w fun e w' => e = .returned (.tuple #[]) ∧ ∃ m', Bk w' m' { B with live := fun q j => if q = p then none else B.live q j, laid := fun q j => if q = p then none else B.laid q j } ∧ Tr w w' m m' := by
  obtain ⟨w1, r1, c1, c2, c3, c4⟩ := h.bw.live.cut Try.underlying60 hp 0 3
  obtain ⟨k1, t1⟩ := h.live_to c3 (fun j hj => by subst hj; exact List.mem_cons_self) c1 (fun g hg => .inl (List.mem_map.2 ⟨g, (List.mem_filter.1 hg).1, rfl⟩)) (h.live.cut c2) (fun g hg => h.cnt g (List.mem_filter.1 hg).1)
  obtain ⟨w2, r2, d1, d2, d3, d4⟩ := k1.bw.laid.cut Try.underlying62 hp 0 3
  obtain ⟨k2, t2⟩ := k1.laid_to d3 (fun j hj => by subst hj; exact List.mem_cons_self) d1 (fun g hg => .inl (List.mem_map.2 ⟨g, (List.mem_filter.1 hg).1, rfl⟩)) ((k1.laid.mono (fun v a hr => hr.but k1.bw (d3.mono (fun j hj => .inl (by subst hj; simp [Bm.blks] : _ ∈ _))) (fun _ h => h))).cut d2)
  have q1 := h.bw.bx.cell 1 rfl
  have q3 := k1.bw.bx.cell 3 rfl
  have HR1 := hid r1
  have HR2 := hid r2
  have HF := hid (And.intro k2 (t1.trans t2))
  clear h hp r1 c1 c2 c3 c4 k1 t1 r2 d1 d2 d3 d4 k2 t2
  go_enter Try.func19, Try.ntmps19
  go_wp2_with (first | ((with_reducible refine del_arm HR1.out ?_ ?_ ?_); (· rfl); (· rfl)) | ((with_reducible refine del_arm HR2.out ?_ ?_ ?_); (· rfl); (· rfl)))
  exact bodyPost_end (v := .tuple #[]) (by simp [results, Try.results19, go_sem]) rfl ⟨rfl, _, HF.out.1, HF.out.2⟩
theorem wholes_any (a : Option Addr) (n c : Nat) (w : World) (hn : n ≤ 1099511627776) : Calls Try.prog 38 #[.slice a n c] w fun e w' => e = .returned (.int .i64 ((n - 23 : Nat) : Int)) ∧ w' = w := by
  by_cases h : 23 ≤ n
  · have e : ((n - 23 : Nat) : Int) = (n : Int) - 24 + 1 := by omega
    have hm : ¬ ((n : Int) - 24 + 1 < 0) := by omega
    rw [e]
    go_enter Try.func38, Try.ntmps38
    go_wp2
    all_goals (go_ret; exact ⟨ret_int (by omega), rfl⟩)
  · have e : ((n - 23 : Nat) : Int) = 0 := by omega
    rw [e]
    go_enter Try.func38, Try.ntmps38
    go_wp2
    all_goals (go_ret; exact ⟨ret_int (by omega), rfl⟩)
theorem w64_ok (x : Int) : I64 (wrap64 x) := by
  unfold wrap64
  constructor <;> omega
/-- A read's tellings, one place behind the other. -/
def rdS (b obj off : Int) (B : Bv) (k : Nat) : Bv := match B.laid obj (wrap64 (off + (k : Int))) with
  | some (x :: ls) => tellV B 3 x.t b x.c (x :: ls)
  | _ => B
def rdV (b obj off : Int) (B : Bv) : Nat → Bv
  | 0 => B
  | k + 1 => rdS b obj off (rdV b obj off B k) k
theorem tellV_n (B : Bv) (kd b t : Int) (c : Cp) (ls : List Lk) : (tellV B kd b t c ls).n = B.n ∧ (tellV B kd b t c ls).laid = B.laid ∧ (tellV B kd b t c ls).lists = B.lists ∧ (tellV B kd b t c ls).live = B.live := by
  unfold tellV
  split <;> exact ⟨rfl, rfl, rfl, rfl⟩
theorem tellV_len (B : Bv) (kd b t : Int) (c : Cp) (ls : List Lk) (p : Int) : ((tellV B kd b t c ls).known p).length ≤ (B.known p).length + 1 := by
  unfold tellV
  split
  · simp only [up1]
    split
    · rename_i e
      subst e
      simp
    · omega
  · omega
theorem rdV_n (b obj off : Int) (B : Bv) (k : Nat) : (rdV b obj off B k).n = B.n ∧ (rdV b obj off B k).laid = B.laid ∧ (rdV b obj off B k).lists = B.lists ∧ ∀ p, ((rdV b obj off B k).known p).length ≤ (B.known p).length + k := by
  induction k with
  | zero => exact ⟨rfl, rfl, rfl, fun p => Nat.le_refl _⟩
  | succ k ih =>
    obtain ⟨h1, h2, h3, h4⟩ := ih
    unfold rdV rdS
    split
    · rename_i x ls _
      obtain ⟨k1, k2, k3, _⟩ := tellV_n (rdV b obj off B k) 3 x.t b x.c (x :: ls)
      exact ⟨k1.trans h1, k2.trans h2, k3.trans h3, fun p => by have := tellV_len (rdV b obj off B k) 3 x.t b x.c (x :: ls) p; have := h4 p; omega⟩
    · exact ⟨h1, h2, h3, fun p => by have := h4 p; omega⟩
/-- What is laid at a place, as the program finds it. -/
theorem laid_bk (m : Bm) (B : Bv) (p i : Int) (w : World) (h : Bk w m B) (hp : I64 p) (hi : I64 i) :
    (∀ U, Below w.heap.size w U → Calls Try.prog 39 #[.map (some m.ba), .int .i64 p, .int .i64 i] U fun e w' => e = .returned (.tuple #[.pointer none, .bool false]) ∧ w' = U) ∧ (∀ x ls, B.laid p i ≠ some (x :: ls)) ∨
    ∃ kt x ls ah, B.laid p i = some (x :: ls) ∧ Tyd w kt x.s x.kd x.b x.t x.c ah ∧ Tls w (some ⟨kt, 0, none⟩) (x :: ls) ∧ (∀ y ∈ x :: ls, lkOk y) ∧ ∀ U, Below w.heap.size w U → Calls Try.prog 39 #[.map (some m.ba), .int .i64 p, .int .i64 i] U fun e w' => e = .returned (.tuple #[.pointer (some ⟨kt, 0, none⟩), .bool true]) ∧ w' = U := by
  rcases h.laid.look p i (fun j _ e => ik_inj e) with ⟨hn, hg⟩ | ⟨a, v, hs, ⟨k, rfl, ht, ho⟩, hg⟩
  · exact .inl ⟨fun U hU => lookI_any m.ba m.A p i none U (h.bw.later hU).laid hp hi hg, fun x ls e => by rw [hn] at e; cases e⟩
  · cases a with
    | nil => exact absurd ht (by intro e; cases e)
    | cons x ls =>
      have ht' := ht
      obtain ⟨k', ah, e, hty, _⟩ := ht
      simp only [Option.some.injEq, Addr.mk.injEq, and_true] at e
      subst e
      exact .inr ⟨k, x, ls, ah, hs, hty, ht', ho, fun U hU => lookI_any m.ba m.A p i _ U (h.bw.later hU).laid hp hi hg⟩
def RdRel (W : World) (m : Bm) (b obj off : Int) (B : Bv) (N : Nat) (v : Value) (U : World) : Prop := ∃ k : Nat, v = .int .i64 (k : Int) ∧ k ≤ N ∧ ∃ m', Bk U m' (rdV b obj off B k) ∧ Tr W U m m'
set_option maxRecDepth 100000 in
set_option maxHeartbeats 8000000 in
theorem wasRead_bk (m : Bm) (B : Bv) (x : Cq) (cd nu : Int) (c : Cp) (d : Sl) (w : World) (h : Bk w m B) (hx : x.ok) (hnn : I64 B.n) (hd : d.n ≤ 100000000) (hl : (B.known x.b).length + d.n ≤ 100000000) :
    Calls Try.prog 22 #[.pointer (some ⟨m.g, 0, none⟩), x.v, rpV cd c d nu] w fun e w' => e = .returned (.tuple #[]) ∧ ∃ m', Bk w' m' (rdV x.b x.c.o x.off B (d.n - 23)) ∧ Tr w w' m m' := by
  obtain ⟨o, ch, cl⟩ := c
  obtain ⟨W, hW⟩ : ∃ W, W = (w.alloc (Obj.cells x.L.toArray 36)).alloc (Obj.cells #[.int .i64 cd, .int .i64 o, .int .u64 (ch : Int), .int .u64 (cl : Int), .slice d.a d.n d.c, .int .i64 nu] 39) := ⟨_, rfl⟩
  have hB : Below w.heap.size w W := by rw [hW]; exact below2 _ _ _
  have HX0 : Hid (Bx W w.heap.size x.L) := by rw [hW]; exact (Bx.new w x.L _).later (below1 _ _)
  have HX1 : Hid (Bx W (w.heap.size + 1) (rpL cd ⟨o, ch, cl⟩ d nu)) := by rw [hW]; have := Bx.new (w.alloc (Obj.cells x.L.toArray 36)) (rpL cd ⟨o, ch, cl⟩ d nu) 39; simp at this; exact this
  have y4 := HX1.out.cell 4 rfl
  have HBW := hid (h.later hB)
  have HLt := hid h.bw.own_lt
  have HB := hid hB
  have HW := hid hW
  have HXl : Hid (w.heap.size < W.heap.size) := HX0.out.lt (by simp)
  have HXo := hid hx
  have HNn := hid hnn
  have HL := hid hl
  obtain ⟨da, dn, dc⟩ := d
  have HWh : Hid (∀ U, Calls Try.prog 38 #[.slice da dn dc] U fun e w' => e = .returned (.int .i64 ((dn - 23 : Nat) : Int)) ∧ U = w') := fun U => (wholes_any da dn dc U (by simp only at hd; omega)).mono (fun e w' h => ⟨h.1, h.2.symm⟩)
  obtain ⟨xop, xb, xsz, ⟨xo, xh, xl⟩, xgv, xrt, xoff, xnn, ⟨xda, xdn, xdc⟩, xix, ⟨xga, xgn, xgc⟩⟩ := x
  simp only at HX0 HW HL hd ⊢
  obtain ⟨N, hN⟩ : ∃ N, N = dn - 23 := ⟨_, rfl⟩
  rw [← hN] at HWh ⊢
  have hN2 : N ≤ 100000000 := by omega
  have HN : Hid (N ≤ dn) := by unfold Hid; omega
  clear h hB hW hx hnn hl hd hN
  go_enter Try.func22, Try.ntmps22
  go_upto_region 1 with fail
  rw [← HW.out]
  go_wp2_with (first | (go_at_call 38; refine (HWh.out _).mono ?_; rintro e w2 ⟨rfl, rfl⟩))
  clear y4 HWh
  go_loopw [12] (RdRel W m xb xo xoff B N) (fun v _ => N - ivN v)
  case atStart => exact ⟨0, rfl, Nat.zero_le _, m, HBW.out, Tr.refl _ _⟩
  case round =>
    obtain ⟨k, rfl, hk, m1, hb1, ht1⟩ := hrel
    by_cases hkN : k < N
    · have HB1 := hid hb1
      have HT1 := hid ht1
      have HBt := hid (ht1.bt)
      have hlt : decide ((k : Int) < (N : Int)) = true := by simp; omega
      have hko : I64 xo := HXo.out.c.1
      have HX2 := hid (HX0.out.but HBt.out (fun hj => by have := HLt.out _ hj; omega))
      have q3 := hb1.bw.bx.cell 3 rfl
      rw [ht1.g] at q3
      have x1 := HX2.out.cell 1 rfl
      have x3 := HX2.out.cell 3 rfl
      have x8 := HX2.out.cell 8 rfl
      obtain ⟨r1, r2, r3, r4⟩ := rdV_n xb xo xoff B k
      rcases laid_bk m1 _ xo (wrap64 (xoff + (k : Int))) _ hb1 hko (w64_ok _) with ⟨hlk, hno⟩ | ⟨kt, y, ls, ah, hs, hty, htl, hls, hlk⟩
      · have HLK := hid hlk
        have HNo : Hid (rdV xb xo xoff B (k + 1) = rdV xb xo xoff B k) := by
          unfold Hid
          rw [rdV]
          unfold rdS
          split
          · rename_i y ls e
            exact absurd e (hno y ls)
          · rfl
        clear hlk hno hb1 ht1 hko r1 r2 r3 r4
        go_upto_region 4 with fail
        go_quiet (first | (go_at_call 39; refine Calls.quiet_of_same (HLK.out _ (below_drewN (Below.refl _ _) _))))
        go_wp2
        exact ⟨⟨k + 1, rfl, by omega, m1, by rw [HNo.out]; exact HB1.out.later (below_drewN (Below.refl _ _) _), HT1.out.later (below_drewN (Below.refl _ _) _)⟩, by simp [ivN]; omega⟩
      · have HLK := hid hlk
        have HTy := hid hty
        have HYo := hid (hls y List.mem_cons_self)
        have HTe : Hid (∀ U, Below wr.heap.size wr U → Calls Try.prog 34 #[.pointer (some ⟨m1.g, 0, none⟩), lkV 0 3 y.t xb y.c, .pointer (some ⟨kt, 0, none⟩)] U fun e w' => e = .returned (.tuple #[]) ∧ ∃ m', Bk w' m' (rdV xb xo xoff B (k + 1)) ∧ Tr U w' m1 m') := fun U hU => by
          have he : rdV xb xo xoff B (k + 1) = tellV (rdV xb xo xoff B k) 3 y.t xb y.c (y :: ls) := by
            rw [rdV]
            unfold rdS
            rw [hs]
          rw [he]
          have hn1 : I64 (rdV xb xo xoff B k).n := by rw [r1]; exact HNn.out
          have hl1 := r4 xb
          exact tell_any m1 _ 0 3 y.t xb y.c (some ⟨kt, 0, none⟩) (y :: ls) U (HB1.out.later hU) HYo.out.1 HXo.out.b HYo.out.2.2.1 (by constructor <;> omega) hn1 (htl.later hU) hls (by have := HL.out; have := HN.out; omega)
        rw [HT1.out.g] at HTe
        clear hlk hs hty htl hls hb1 ht1 hko r1 r2 r3 r4
        go_upto_region 4 with fail
        go_quiet (first | (go_at_call 39; refine Calls.quiet_of_same (HLK.out _ (below_drewN (Below.refl _ _) _))))
        go_upto_region 6 with fail
        clear q3 x1 x3 x8
        obtain ⟨U1, hU1⟩ : ∃ U, U = wr.drewN nq := ⟨_, rfl⟩
        rw [← hU1]
        have HBd : Hid (Below wr.heap.size wr U1) := by rw [hU1]; exact below_drewN (Below.refl _ _) _
        have HS : Hid (∀ U, Below U1.heap.size U1 U → (U.rangeAt kt 0 (tlL y.s y.kd y.b y.t y.c ah) ∧ U.rangeAt w.heap.size 0 [.int .i64 xop, .int .i64 xb, .int .i64 xsz, .int .i64 xo, .int .u64 (xh : Int), .int .u64 (xl : Int), .bool xgv, .int .i64 xrt, .int .i64 xoff, .int .i64 xnn, .slice xda xdn xdc, .int .i64 xix, .slice xga xgn xgc])) := fun U hU => ⟨((HTy.out.bx.later HBd.out).later hU).range, ((HX2.out.later HBd.out).later hU).range⟩
        clear hU1
        refine wp_region_held_drew (S := (fun U : World => U.rangeAt kt 0 (tlL y.s y.kd y.b y.t y.c ah) ∧ U.rangeAt w.heap.size 0 [.int .i64 xop, .int .i64 xb, .int .i64 xsz, .int .i64 xo, .int .u64 (xh : Int), .int .u64 (xl : Int), .bool xgv, .int .i64 xrt, .int .i64 xoff, .int .i64 xnn, .slice xda xdn xdc, .int .i64 xix, .slice xga xgn xgc])) (by kernel_rfl) (HS.out _ (Below.refl _ _).drew) (fun hHeld => ?_)
        refine wpAnyH_norm (l2 := #[false, false, false, false, false, false, false, false, false, false, false, false, false, false, false, false]) (f2 := 16) (by kernel_rfl) (by kernel_rfl) ?_
        refine wpAnyH_take (i := 0) (oi := _) (v := ?_) rfl (by kernel_rfl) (by kernel_rfl) (by kernel_rfl) (fun _ _ _ h => h) (Or.inl ⟨by rfl, ?_⟩) (by assumption) ?_
        rotate_left
        · (intro w hSw; (try dsimp only at hSw); go_simp; try with_reducible rfl)
        simp only [List.getElem_toArray, List.getElem_cons_succ, List.getElem_cons_zero, Act.put, List.setIfInBounds_toArray, List.set_cons_zero, List.set_cons_succ]
        refine wpAnyH_norm (l2 := #[true, false, false, false, false, false, false, false, false, false, false, false, false, false, false, false]) (f2 := 15) (by kernel_rfl) (by kernel_rfl) ?_
        refine wpAnyH_take (i := 1) (oi := _) (v := ?_) rfl (by kernel_rfl) (by kernel_rfl) (by kernel_rfl) (fun _ _ _ h => h) (Or.inl ⟨by rfl, ?_⟩) (by assumption) ?_
        rotate_left
        · (intro w hSw; (try dsimp only at hSw); go_simp; try with_reducible rfl)
        simp only [List.getElem_toArray, List.getElem_cons_succ, List.getElem_cons_zero, Act.put, List.setIfInBounds_toArray, List.set_cons_zero, List.set_cons_succ]
        refine wpAnyH_norm (l2 := #[true, true, false, false, false, false, false, false, false, false, false, false, false, false, false, false]) (f2 := 14) (by kernel_rfl) (by kernel_rfl) ?_
        refine wpAnyH_take (i := 2) (oi := _) (v := ?_) rfl (by kernel_rfl) (by kernel_rfl) (by kernel_rfl) (fun _ _ _ h => h) (Or.inl ⟨by rfl, ?_⟩) (by assumption) ?_
        rotate_left
        · (intro w hSw; (try dsimp only at hSw); go_simp; try with_reducible rfl)
        simp only [List.getElem_toArray, List.getElem_cons_succ, List.getElem_cons_zero, Act.put, List.setIfInBounds_toArray, List.set_cons_zero, List.set_cons_succ]
        refine wpAnyH_norm (l2 := #[true, true, true, false, false, false, false, false, false, false, false, false, false, false, false, false]) (f2 := 13) (by kernel_rfl) (by kernel_rfl) ?_
        refine wpAnyH_take (i := 3) (oi := _) (v := ?_) rfl (by kernel_rfl) (by kernel_rfl) (by kernel_rfl) (fun _ _ _ h => h) (Or.inl ⟨by rfl, ?_⟩) (by assumption) ?_
        rotate_left
        · (intro w hSw; (try dsimp only at hSw); go_simp; try with_reducible rfl)
        simp only [List.getElem_toArray, List.getElem_cons_succ, List.getElem_cons_zero, Act.put, List.setIfInBounds_toArray, List.set_cons_zero, List.set_cons_succ]
        refine wpAnyH_norm (l2 := #[true, true, true, true, false, false, false, false, false, false, false, false, false, false, false, false]) (f2 := 12) (by kernel_rfl) (by kernel_rfl) ?_
        refine wpAnyH_take (i := 4) (oi := _) (v := ?_) rfl (by kernel_rfl) (by kernel_rfl) (by kernel_rfl) (fun _ _ _ h => h) (Or.inl ⟨by rfl, ?_⟩) (by assumption) ?_
        rotate_left
        · (intro w hSw; (try dsimp only at hSw); go_simp; try with_reducible rfl)
        simp only [List.getElem_toArray, List.getElem_cons_succ, List.getElem_cons_zero, Act.put, List.setIfInBounds_toArray, List.set_cons_zero, List.set_cons_succ]
        refine wpAnyH_norm (l2 := #[true, true, true, true, true, false, false, false, false, false, false, false, false, false, false, false]) (f2 := 11) (by kernel_rfl) (by kernel_rfl) ?_
        refine wpAnyH_take (i := 5) (oi := _) (v := ?_) rfl (by kernel_rfl) (by kernel_rfl) (by kernel_rfl) (fun _ _ _ h => h) (Or.inl ⟨by rfl, ?_⟩) (by assumption) ?_
        rotate_left
        · (intro w hSw; have z3 := rg_at (j := 3) hSw.1 rfl; go_simp; try with_reducible rfl)
        simp only [List.getElem_toArray, List.getElem_cons_succ, List.getElem_cons_zero, Act.put, List.setIfInBounds_toArray, List.set_cons_zero, List.set_cons_succ]
        refine wpAnyH_norm (l2 := #[true, true, true, true, true, true, false, false, false, false, false, false, false, false, false, false]) (f2 := 10) (by kernel_rfl) (by kernel_rfl) ?_
        refine wpAnyH_take (i := 6) (oi := _) (v := ?_) rfl (by kernel_rfl) (by kernel_rfl) (by kernel_rfl) (fun _ _ _ h => h) (Or.inl ⟨by rfl, ?_⟩) (by assumption) ?_
        rotate_left
        · (intro w hSw; (try dsimp only at hSw); go_simp; try with_reducible rfl)
        simp only [List.getElem_toArray, List.getElem_cons_succ, List.getElem_cons_zero, Act.put, List.setIfInBounds_toArray, List.set_cons_zero, List.set_cons_succ]
        refine wpAnyH_norm (l2 := #[true, true, true, true, true, true, true, false, false, false, false, false, false, false, false, false]) (f2 := 9) (by kernel_rfl) (by kernel_rfl) ?_
        refine wpAnyH_take (i := 7) (oi := _) (v := ?_) rfl (by kernel_rfl) (by kernel_rfl) (by kernel_rfl) (fun _ _ _ h => h) (Or.inl ⟨by rfl, ?_⟩) (by assumption) ?_
        rotate_left
        · (intro w hSw; have z1 := rg_at (j := 1) hSw.2 rfl; go_simp; try with_reducible rfl)
        simp only [List.getElem_toArray, List.getElem_cons_succ, List.getElem_cons_zero, Act.put, List.setIfInBounds_toArray, List.set_cons_zero, List.set_cons_succ]
        refine wpAnyH_norm (l2 := #[true, true, true, true, true, true, true, true, false, false, false, false, false, false, false, false]) (f2 := 8) (by kernel_rfl) (by kernel_rfl) ?_
        refine wpAnyH_take (i := 8) (oi := _) (v := ?_) rfl (by kernel_rfl) (by kernel_rfl) (by kernel_rfl) (fun _ _ _ h => h) (Or.inl ⟨by rfl, ?_⟩) (by assumption) ?_
        rotate_left
        · (intro w hSw; (try dsimp only at hSw); go_simp; try with_reducible rfl)
        simp only [List.getElem_toArray, List.getElem_cons_succ, List.getElem_cons_zero, Act.put, List.setIfInBounds_toArray, List.set_cons_zero, List.set_cons_succ]
        refine wpAnyH_norm (l2 := #[true, true, true, true, true, true, true, true, true, false, false, false, false, false, false, false]) (f2 := 7) (by kernel_rfl) (by kernel_rfl) ?_
        refine wpAnyH_take (i := 9) (oi := _) (v := ?_) rfl (by kernel_rfl) (by kernel_rfl) (by kernel_rfl) (fun _ _ _ h => h) (Or.inl ⟨by rfl, ?_⟩) (by assumption) ?_
        rotate_left
        · (intro w hSw; (try dsimp only at hSw); go_simp; try with_reducible rfl)
        simp only [List.getElem_toArray, List.getElem_cons_succ, List.getElem_cons_zero, Act.put, List.setIfInBounds_toArray, List.set_cons_zero, List.set_cons_succ]
        refine wpAnyH_norm (l2 := #[true, true, true, true, true, true, true, true, true, true, false, false, false, false, false, false]) (f2 := 6) (by kernel_rfl) (by kernel_rfl) ?_
        refine wpAnyH_take (i := 10) (oi := _) (v := ?_) rfl (by kernel_rfl) (by kernel_rfl) (by kernel_rfl) (fun _ _ _ h => h) (Or.inl ⟨by rfl, ?_⟩) (by assumption) ?_
        rotate_left
        · (intro w hSw; (try dsimp only at hSw); go_simp; try with_reducible rfl)
        simp only [List.getElem_toArray, List.getElem_cons_succ, List.getElem_cons_zero, Act.put, List.setIfInBounds_toArray, List.set_cons_zero, List.set_cons_succ]
        refine wpAnyH_norm (l2 := #[true, true, true, true, true, true, true, true, true, true, true, false, false, false, false, false]) (f2 := 5) (by kernel_rfl) (by kernel_rfl) ?_
        refine wpAnyH_take (i := 11) (oi := _) (v := ?_) rfl (by kernel_rfl) (by kernel_rfl) (by kernel_rfl) (fun _ _ _ h => h) (Or.inl ⟨by rfl, ?_⟩) (by assumption) ?_
        rotate_left
        · (intro w hSw; (try dsimp only at hSw); go_simp; try with_reducible rfl)
        simp only [List.getElem_toArray, List.getElem_cons_succ, List.getElem_cons_zero, Act.put, List.setIfInBounds_toArray, List.set_cons_zero, List.set_cons_succ]
        refine wpAnyH_norm (l2 := #[true, true, true, true, true, true, true, true, true, true, true, true, false, false, false, false]) (f2 := 4) (by kernel_rfl) (by kernel_rfl) ?_
        refine wpAnyH_take (i := 12) (oi := _) (v := ?_) rfl (by kernel_rfl) (by kernel_rfl) (by kernel_rfl) (fun _ _ _ h => h) (Or.inl ⟨by rfl, ?_⟩) (by assumption) ?_
        rotate_left
        · (intro w hSw; have z4 := rg_at (j := 4) hSw.1 rfl; have z5 := rg_at (j := 5) hSw.1 rfl; have z6 := rg_at (j := 6) hSw.1 rfl; go_simp; try with_reducible rfl)
        simp only [List.getElem_toArray, List.getElem_cons_succ, List.getElem_cons_zero, Act.put, List.setIfInBounds_toArray, List.set_cons_zero, List.set_cons_succ]
        refine wpAnyH_norm (l2 := #[true, true, true, true, true, true, true, true, true, true, true, true, true, false, false, false]) (f2 := 3) (by kernel_rfl) (by kernel_rfl) ?_
        refine wpAnyH_take (i := 13) (oi := _) (v := ?_) rfl (by kernel_rfl) (by kernel_rfl) (by kernel_rfl) (fun _ _ _ h => h) (Or.inl ⟨by rfl, ?_⟩) (by assumption) ?_
        rotate_left
        · (intro w hSw; (try dsimp only at hSw); go_simp; try with_reducible rfl)
        simp only [List.getElem_toArray, List.getElem_cons_succ, List.getElem_cons_zero, Act.put, List.setIfInBounds_toArray, List.set_cons_zero, List.set_cons_succ]
        refine wpAnyH_norm (l2 := #[true, true, true, true, true, true, true, true, true, true, true, true, true, true, false, false]) (f2 := 2) (by kernel_rfl) (by kernel_rfl) ?_
        refine wpAnyH_take (i := 14) (oi := _) (v := ?_) rfl (by kernel_rfl) (by kernel_rfl) (by kernel_rfl) (fun _ _ _ h => h) (Or.inl ⟨by rfl, ?_⟩) (by assumption) ?_
        rotate_left
        · (intro w hSw; (try dsimp only at hSw); go_simp; try with_reducible rfl)
        simp only [List.getElem_toArray, List.getElem_cons_succ, List.getElem_cons_zero, Act.put, List.setIfInBounds_toArray, List.set_cons_zero, List.set_cons_succ]
        refine wpAnyH_norm (l2 := #[true, true, true, true, true, true, true, true, true, true, true, true, true, true, true, false]) (f2 := 1) (by kernel_rfl) (by kernel_rfl) ?_
        refine wpAnyH_ready (rs := [15]) (by kernel_rfl) (by simp) ?_
        refine AllReadyH.cons rfl (fun K hK => ?_) AllReadyH.nil
        go_simp
        go_wp2_with (first | (go_at_call 34; refine (HTe.out _ (below_call HBd.out (Below.refl _ _).drew)).mono ?_; rintro e w3 ⟨rfl, m2, hb2, ht2⟩))
        have HB2 := hid hb2
        have HT2 : Hid (Tr wr w3 m1 m2) := Tr.fore (below_call HBd.out (Below.refl _ _).drew) ht2
        have HSe : Hid (w3.rangeAt kt 0 (tlL y.s y.kd y.b y.t y.c ah) ∧ w3.rangeAt w.heap.size 0 [.int .i64 xop, .int .i64 xb, .int .i64 xsz, .int .i64 xo, .int .u64 (xh : Int), .int .u64 (xl : Int), .bool xgv, .int .i64 xrt, .int .i64 xoff, .int .i64 xnn, .slice xda xdn xdc, .int .i64 xix, .slice xga xgn xgc]) := ⟨(HTy.out.bx.but HT2.out.bt (HB1.out.bw.tyd HTy.out)).range, (HX2.out.but HT2.out.bt (fun hj => by rcases HT1.out.gr _ hj with h1 | h1; (have := HLt.out _ h1; omega); (have h2 := HXl.out; omega))).range⟩
        clear hb2 ht2
        refine hK.out _ _ (HSe.out) (fun hHeld => ?_)
        clear hK K
        simp only [List.getElem_toArray, List.getElem_cons_succ, List.getElem_cons_zero, Act.put, List.setIfInBounds_toArray, List.set_cons_zero, List.set_cons_succ]
        refine wpAnyH_norm (l2 := #[true, true, true, true, true, true, true, true, true, true, true, true, true, true, true, true]) (f2 := 0) (by kernel_rfl) (by kernel_rfl) ?_
        refine wpAnyH_done (by kernel_rfl) ?_ _
        go_wp2
        exact ⟨⟨k + 1, rfl, by omega, m2, HB2.out, HT1.out.trans HT2.out⟩, by simp [ivN]; omega⟩
    · obtain rfl : k = N := by omega
      have hlt : decide ((k : Int) < (k : Int)) = false := by simp
      have HB1 := hid hb1
      have HT1 := hid ht1
      clear hb1 ht1
      go_wp2
      exact bodyPost_end (v := .tuple #[]) (by simp [results, Try.results22, go_sem]) rfl ⟨rfl, m1, HB1.out, Tr.fore HB.out HT1.out⟩
end Go.Proofs.Yticgammbjcdobaa
