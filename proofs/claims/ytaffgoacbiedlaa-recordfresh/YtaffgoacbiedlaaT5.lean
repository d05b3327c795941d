import Derived.Test.YtaffgoacbiedlaaT2
import Derived.Test.YtaffgoacbiedlaaT3
import Derived.Test.YtaffgoacbiedlaaT4
namespace Go.Proofs.Ytaffgoacbiedlaa
open Go.RowKit
set_option linter.unusedVariables false
set_option linter.unusedSimpArgs false

/-- Bytes being laid by the document: the list, the call's box. -/
structure Bs (w W : World) (L : List Value) (a : Option Addr) (n cap : Nat) (B : List Nat) : Prop where
  own : Own W (w.heap.size + 1) a n cap B
  box : Bx W w.heap.size L
  below : Below w.heap.size w W
  lt : w.heap.size < W.heap.size
theorem Bs.gr {w W W' : World} {L : List Value} {a a' : Option Addr} {n cap n' cap' : Nat} {B B' : List Nat} (h : Bs w W L a n cap B) (ho : Own W' (w.heap.size + 1) a' n' cap' B') (hg : Gr a a' W W') : Bs w W' L a' n' cap' B' :=
  ⟨ho, h.box.but hg.but (fun hk => by have := h.own.blk _ hk; omega), But.below h.below hg.but (fun k hk => by have := h.own.blk k hk; omega), Nat.lt_of_lt_of_le h.lt hg.but.size⟩
theorem Bs.later {w W W' : World} {L : List Value} {a : Option Addr} {n cap : Nat} {B : List Nat} (h : Bs w W L a n cap B) (hb : Below W.heap.size W W') : Bs w W' L a n cap B :=
  ⟨h.own.later hb, h.box.later hb, below_call h.below hb, Nat.lt_of_lt_of_le h.lt hb.size⟩
theorem Bs.zero (w : World) (L : List Value) {W : World} (hx : Bx W w.heap.size L) (hb : Below w.heap.size w W) (hl : w.heap.size < W.heap.size) : Bs w W L none 0 0 [] := ⟨Own.nil _ _, hx, hb, hl⟩
theorem bput (k : Nat) (hk : k ≤ 8) {w W : World} {L : List Value} {a : Option Addr} {n cap : Nat} {B : List Nat} (h : Bs w W L a n cap B) (hn : n ≤ 100000) (v : Int) : Calls Try.prog 36 #[.slice a n cap, .int .i64 v, .int .i64 (k : Int)] W fun e w' => ∃ a' c', e = .returned (.slice a' (n + k) c') ∧ Bs w w' L a' (n + k) c' (B ++ beL v k) := by
  refine (rput_any a n cap B v k W (w.heap.size + 1) h.own h.lt hk hn).mono ?_
  rintro e w' ⟨a', c', rfl, ho, hg⟩
  exact ⟨a', c', rfl, h.gr ho hg⟩
theorem bput1 {w W : World} {L : List Value} {a : Option Addr} {n cap : Nat} {B : List Nat} (h : Bs w W L a n cap B) (hn : n ≤ 100000) (v : Int) : Calls Try.prog 36 #[.slice a n cap, .int .i64 v, .int .i64 1] W fun e w' => ∃ a' c', e = .returned (.slice a' (n + 1) c') ∧ Bs w w' L a' (n + 1) c' (B ++ beL v 1) := bput 1 (by omega) h hn v
theorem bput2 {w W : World} {L : List Value} {a : Option Addr} {n cap : Nat} {B : List Nat} (h : Bs w W L a n cap B) (hn : n ≤ 100000) (v : Int) : Calls Try.prog 36 #[.slice a n cap, .int .i64 v, .int .i64 2] W fun e w' => ∃ a' c', e = .returned (.slice a' (n + 2) c') ∧ Bs w w' L a' (n + 2) c' (B ++ beL v 2) := bput 2 (by omega) h hn v
theorem bput4 {w W : World} {L : List Value} {a : Option Addr} {n cap : Nat} {B : List Nat} (h : Bs w W L a n cap B) (hn : n ≤ 100000) (v : Int) : Calls Try.prog 36 #[.slice a n cap, .int .i64 v, .int .i64 4] W fun e w' => ∃ a' c', e = .returned (.slice a' (n + 4) c') ∧ Bs w w' L a' (n + 4) c' (B ++ beL v 4) := bput 4 (by omega) h hn v
theorem bput8 {w W : World} {L : List Value} {a : Option Addr} {n cap : Nat} {B : List Nat} (h : Bs w W L a n cap B) (hn : n ≤ 100000) (v : Int) : Calls Try.prog 36 #[.slice a n cap, .int .i64 v, .int .i64 8] W fun e w' => ∃ a' c', e = .returned (.slice a' (n + 8) c') ∧ Bs w w' L a' (n + 8) c' (B ++ beL v 8) := bput 8 (by omega) h hn v
theorem bcap {w W : World} {L : List Value} {a : Option Addr} {n cap : Nat} {B : List Nat} (h : Bs w W L a n cap B) (hn : n ≤ 1000) (o hi lo : Nat) (h1 : hi < 18446744073709551616) (h2 : lo < 18446744073709551616) : Calls Try.prog 37 #[.slice a n cap, .agg #[.int .i64 (o : Int), .int .u64 (hi : Int), .int .u64 (lo : Int)]] W fun e w' => ∃ a' c', e = .returned (.slice a' (n + 24) c') ∧ Bs w w' L a' (n + 24) c' (B ++ (leL o 8 ++ leL lo 8 ++ leL hi 8)) := by
  refine (capped_any a n cap B o hi lo W (w.heap.size + 1) h.own h.lt hn h1 h2).mono ?_
  rintro e w' ⟨a', c', rfl, ho, hg⟩
  exact ⟨a', c', rfl, h.gr ho hg⟩
theorem bapp {w W : World} {L : List Value} {a : Option Addr} {n cap : Nat} {B : List Nat} (h : Bs w W L a n cap B) {b : Option Addr} {m c : Nat} {M : List Nat} (k : Row W b m c M) (hr : n + m ≤ 140737488355328) :
    ∃ a' c' w', (Builtin.append_ #[28, 28] 28 #[.slice a n cap, .slice b m c]).run Try.prog W = .ok (.slice a' (n + m) c') w' ∧ Bs w w' L a' (n + m) c' (B ++ M) := by
  obtain ⟨a', c', w', h1, h2, h3⟩ := append_any h.own k h.lt hr
  exact ⟨a', c', w', h1, h.gr h2 h3⟩
theorem bbyte {w W : World} {L : List Value} {a : Option Addr} {n cap : Nat} {B : List Nat} (h : Bs w W L a n cap B) (q : Nat) (hq : q < 256) (hr : n + 1 ≤ 140737488355328) :
    ∃ a' c' w', (Builtin.append_ #[28, 28] 28 #[.slice a n cap, .slice (some ⟨W.heap.size, 0, none⟩) 1 1]).run Try.prog (W.alloc (Obj.cells #[Value.int .u8 (q : Int)] 5)) = .ok (.slice a' (n + 1) c') w' ∧ Bs w w' L a' (n + 1) c' (B ++ [q]) := by
  obtain ⟨a', c', w', h1, h2, h3⟩ := append_byte (b := q) h.own h.lt hr hq
  exact ⟨a', c', w', h1, h.gr h2 h3⟩
theorem Bx.cells {W : World} {b : Nat} {op by_ size obj : Int} {hi lo : Nat} {given : Bool} {rights off n : Int} {data : List Nat} {index : Int} {gifts : List Int} {da : Option Addr} {dn dc : Nat} {ga : Option Addr} {gn gc : Nat} (h : Bx W b (cC ⟨op, by_, size, obj, hi, lo, given, rights, off, n, data, index, gifts⟩ ⟨da, dn, dc⟩ ⟨ga, gn, gc⟩)) :
    W.cell? ⟨b, 0, none⟩ = some (.int .i64 op) ∧ W.cell? ⟨b, 1, none⟩ = some (.int .i64 by_) ∧ W.cell? ⟨b, 2, none⟩ = some (.int .i64 size) ∧ W.cell? ⟨b, 3, none⟩ = some (.int .i64 obj) ∧ W.cell? ⟨b, 4, none⟩ = some (.int .u64 (hi : Int)) ∧ W.cell? ⟨b, 5, none⟩ = some (.int .u64 (lo : Int)) ∧ W.cell? ⟨b, 6, none⟩ = some (.bool given) ∧ W.cell? ⟨b, 7, none⟩ = some (.int .i64 rights) ∧ W.cell? ⟨b, 8, none⟩ = some (.int .i64 off) ∧ W.cell? ⟨b, 9, none⟩ = some (.int .i64 n) ∧ W.cell? ⟨b, 10, none⟩ = some (.slice da dn dc) ∧ W.cell? ⟨b, 11, none⟩ = some (.int .i64 index) ∧ W.cell? ⟨b, 12, none⟩ = some (.slice ga gn gc) :=
  ⟨h.cell 0 rfl, h.cell 1 rfl, h.cell 2 rfl, h.cell 3 rfl, h.cell 4 rfl, h.cell 5 rfl, h.cell 6 rfl, h.cell 7 rfl, h.cell 8 rfl, h.cell 9 rfl, h.cell 10 rfl, h.cell 11 rfl, h.cell 12 rfl⟩
theorem wpAnyH_norm {P : Program} {md : Region.Mode} {ops : Array Oper} {Q : Exit → Act → World → Prop} {S : World → Prop} {fuel f2 : Nat} {listed l2 : Array Bool} {a : Act} {w : World} (hl : listed = l2) (hf : fuel = f2) (h : wpAnyH P md ops Q S f2 l2 a w) : wpAnyH P md ops Q S fuel listed a w := by
  subst hl hf
  exact h
theorem ex_load {P : Program} {w : World} {o : Oper} {ρ : Operand → Value} {ty : TypeId} {x : Operand} {p v : Value}
    (ho : o.op = .load ty x) (hx : ρ x = p) (hr : (Instr.loadAt ty p).run P w = .ok v w) : (execOp ρ o).run P w = .ok (.value v) w := by
  unfold execOp
  simp only [ho, hx, hr, Sem.run_bind, Sem.run_pure, Result.andThen_ok]
set_option maxRecDepth 100000 in
set_option maxHeartbeats 8000000 in
theorem rbytes_bad (L : List Value) (c : Cl) (w : World) (h : Cc w L c) (hgn : c.gifts.length ≤ 17592186044416) (hf : fm c = false) :
    Calls Try.prog 20 #[.agg L.toArray] w fun e w' => e = .returned (.tuple #[.slice none 0 0, .int .i64 1]) ∧ Below w.heap.size w w' := by
  have X1 := Bx.new w L 41
  have HX : Hid (Bx (w.alloc (Obj.cells L.toArray 41)).drew w.heap.size L) := X1.later (Below.refl _ _).drew
  have HLL := hid h.len
  have HC : Hid (Cc (w.alloc (Obj.cells L.toArray 41)).drew L c) := h.later ((below1 _ _).drew)
  have HB : Hid (Below w.heap.size w (w.alloc (Obj.cells L.toArray 41)).drew) := (below1 _ _).drew
  have HGN := hid hgn
  have hfr := fm_ref c
  rw [hf] at hfr
  clear X1 h hgn hf
  cases F1 : (wi c.op 1 10 && inB c) with
  | false =>
    clear hfr
    go_enter Try.func20, Try.ntmps20
    go_upto_region 1 with fail
    refine wp_region_held_drew (S := (fun U : World => Bx U w.heap.size L)) (by kernel_rfl) (HX.out) (fun hHeld => ?_)
    refine wpAnyH_norm (l2 := #[false, false, false, false, false, false, false, false, false, false]) (f2 := 10) (by kernel_rfl) (by kernel_rfl) ?_
    refine wpAnyH_take (i := 0) (oi := _) (v := .agg L.toArray) rfl (by kernel_rfl) (by kernel_rfl) (by kernel_rfl) (fun _ _ _ h => h) (Or.inl ⟨by rfl, ?_⟩) (by assumption) ?_
    · (intro w hSw; (try dsimp only at hSw); exact ex_load rfl rfl (ld41 hSw.range HLL.out))
    simp only [List.getElem_toArray, List.getElem_cons_succ, List.getElem_cons_zero, Act.put, List.setIfInBounds_toArray, List.set_cons_zero, List.set_cons_succ]
    refine wpAnyH_norm (l2 := #[true, false, false, false, false, false, false, false, false, false]) (f2 := 9) (by kernel_rfl) (by kernel_rfl) ?_
    refine wpAnyH_ready (rs := [1]) (by kernel_rfl) (by simp) ?_
    refine AllReadyH.cons rfl (fun K hK => ?_) AllReadyH.nil
    go_simp
    go_wp2_with (first | (go_at_call 34; refine (right_any L c _ HC.out HGN.out).mono ?_; rintro e w2 ⟨rfl, hb2⟩; rw [F1]; have HX2 := hid (HX.out.later hb2); have HC2 := hid (HC.out.later hb2); have HB2 := hid (below_call HB.out hb2); clear hb2))
    refine hK.out _ _ (HX2.out) (fun hHeld => ?_)
    clear hK K
    simp only [List.getElem_toArray, List.getElem_cons_succ, List.getElem_cons_zero, Act.put, List.setIfInBounds_toArray, List.set_cons_zero, List.set_cons_succ]
    refine wpAnyH_norm (l2 := #[true, true, false, false, false, false, false, false, false, false]) (f2 := 8) (by kernel_rfl) (by kernel_rfl) ?_
    refine wpAnyH_take (i := 2) (oi := _) (v := ?_) rfl (by kernel_rfl) (by kernel_rfl) (by kernel_rfl) (fun _ _ _ h => h) (Or.inl ⟨by rfl, ?_⟩) (by assumption) ?_
    rotate_left
    · (intro w hSw; (try dsimp only at hSw); go_simp; try with_reducible rfl)
    simp only [List.getElem_toArray, List.getElem_cons_succ, List.getElem_cons_zero, Act.put, List.setIfInBounds_toArray, List.set_cons_zero, List.set_cons_succ]
    refine wpAnyH_norm (l2 := #[true, true, true, false, false, false, false, false, false, false]) (f2 := 7) (by kernel_rfl) (by kernel_rfl) ?_
    refine wpAnyH_take (i := 3) (oi := _) (v := ?_) rfl (by kernel_rfl) (by kernel_rfl) (by kernel_rfl) (fun _ _ _ h => h) (Or.inl ⟨by rfl, ?_⟩) (by assumption) ?_
    rotate_left
    · (intro w hSw; (try dsimp only at hSw); go_simp; try with_reducible rfl)
    simp only [List.getElem_toArray, List.getElem_cons_succ, List.getElem_cons_zero, Act.put, List.setIfInBounds_toArray, List.set_cons_zero, List.set_cons_succ]
    refine wpAnyH_norm (l2 := #[true, true, true, true, false, false, false, false, false, false]) (f2 := 6) (by kernel_rfl) (by kernel_rfl) ?_
    refine wpAnyH_take (i := 4) (oi := _) (v := undef) rfl (by kernel_rfl) (by kernel_rfl) (by kernel_rfl) (fun _ _ _ h => h) (Or.inr ⟨by rfl, rfl⟩) (by assumption) ?_
    simp only [List.getElem_toArray, List.getElem_cons_succ, List.getElem_cons_zero, Act.put, List.setIfInBounds_toArray, List.set_cons_zero, List.set_cons_succ]
    refine wpAnyH_norm (l2 := #[true, true, true, true, true, false, false, false, false, false]) (f2 := 5) (by kernel_rfl) (by kernel_rfl) ?_
    refine wpAnyH_take (i := 5) (oi := _) (v := undef) rfl (by kernel_rfl) (by kernel_rfl) (by kernel_rfl) (fun _ _ _ h => h) (Or.inr ⟨by rfl, rfl⟩) (by assumption) ?_
    simp only [List.getElem_toArray, List.getElem_cons_succ, List.getElem_cons_zero, Act.put, List.setIfInBounds_toArray, List.set_cons_zero, List.set_cons_succ]
    refine wpAnyH_norm (l2 := #[true, true, true, true, true, true, false, false, false, false]) (f2 := 4) (by kernel_rfl) (by kernel_rfl) ?_
    refine wpAnyH_take (i := 6) (oi := _) (v := undef) rfl (by kernel_rfl) (by kernel_rfl) (by kernel_rfl) (fun _ _ _ h => h) (Or.inr ⟨by rfl, rfl⟩) (by assumption) ?_
    simp only [List.getElem_toArray, List.getElem_cons_succ, List.getElem_cons_zero, Act.put, List.setIfInBounds_toArray, List.set_cons_zero, List.set_cons_succ]
    refine wpAnyH_norm (l2 := #[true, true, true, true, true, true, true, false, false, false]) (f2 := 3) (by kernel_rfl) (by kernel_rfl) ?_
    refine wpAnyH_take (i := 7) (oi := _) (v := undef) rfl (by kernel_rfl) (by kernel_rfl) (by kernel_rfl) (fun _ _ _ h => h) (Or.inr ⟨by rfl, rfl⟩) (by assumption) ?_
    simp only [List.getElem_toArray, List.getElem_cons_succ, List.getElem_cons_zero, Act.put, List.setIfInBounds_toArray, List.set_cons_zero, List.set_cons_succ]
    refine wpAnyH_norm (l2 := #[true, true, true, true, true, true, true, true, false, false]) (f2 := 2) (by kernel_rfl) (by kernel_rfl) ?_
    refine wpAnyH_take (i := 8) (oi := _) (v := undef) rfl (by kernel_rfl) (by kernel_rfl) (by kernel_rfl) (fun _ _ _ h => h) (Or.inr ⟨by rfl, rfl⟩) (by assumption) ?_
    simp only [List.getElem_toArray, List.getElem_cons_succ, List.getElem_cons_zero, Act.put, List.setIfInBounds_toArray, List.set_cons_zero, List.set_cons_succ]
    refine wpAnyH_norm (l2 := #[true, true, true, true, true, true, true, true, true, false]) (f2 := 1) (by kernel_rfl) (by kernel_rfl) ?_
    refine wpAnyH_take (i := 9) (oi := _) (v := ?_) rfl (by kernel_rfl) (by kernel_rfl) (by kernel_rfl) (fun _ _ _ h => h) (Or.inl ⟨by rfl, ?_⟩) (by assumption) ?_
    rotate_left
    · (intro w hSw; (try dsimp only at hSw); go_simp; try with_reducible rfl)
    simp only [List.getElem_toArray, List.getElem_cons_succ, List.getElem_cons_zero, Act.put, List.setIfInBounds_toArray, List.set_cons_zero, List.set_cons_succ]
    refine wpAnyH_norm (l2 := #[true, true, true, true, true, true, true, true, true, true]) (f2 := 0) (by kernel_rfl) (by kernel_rfl) ?_
    refine wpAnyH_done (by kernel_rfl) ?_ _
    go_wp2
    exact bodyPost_ret (v := .tuple #[.slice none 0 0, .int .i64 1]) (by simp [results, Try.results20, go_sem]) rfl ⟨rfl, HB2.out⟩
  | true =>
    have F2 : smB c (kp c) = false := by simp only [F1, Bool.true_and] at hfr; exact hfr
    clear hfr
    go_enter Try.func20, Try.ntmps20
    go_upto_region 1 with fail
    refine wp_region_held_drew (S := (fun U : World => Bx U w.heap.size L)) (by kernel_rfl) (HX.out) (fun hHeld => ?_)
    refine wpAnyH_norm (l2 := #[false, false, false, false, false, false, false, false, false, false]) (f2 := 10) (by kernel_rfl) (by kernel_rfl) ?_
    refine wpAnyH_take (i := 0) (oi := _) (v := .agg L.toArray) rfl (by kernel_rfl) (by kernel_rfl) (by kernel_rfl) (fun _ _ _ h => h) (Or.inl ⟨by rfl, ?_⟩) (by assumption) ?_
    · (intro w hSw; (try dsimp only at hSw); exact ex_load rfl rfl (ld41 hSw.range HLL.out))
    simp only [List.getElem_toArray, List.getElem_cons_succ, List.getElem_cons_zero, Act.put, List.setIfInBounds_toArray, List.set_cons_zero, List.set_cons_succ]
    refine wpAnyH_norm (l2 := #[true, false, false, false, false, false, false, false, false, false]) (f2 := 9) (by kernel_rfl) (by kernel_rfl) ?_
    refine wpAnyH_ready (rs := [1]) (by kernel_rfl) (by simp) ?_
    refine AllReadyH.cons rfl (fun K hK => ?_) AllReadyH.nil
    go_simp
    go_wp2_with (first | (go_at_call 34; refine (right_any L c _ HC.out HGN.out).mono ?_; rintro e w2 ⟨rfl, hb2⟩; rw [F1]; have HX2 := hid (HX.out.later hb2); have HC2 := hid (HC.out.later hb2); have HB2 := hid (below_call HB.out hb2); clear hb2))
    refine hK.out _ _ (HX2.out) (fun hHeld => ?_)
    clear hK K
    simp only [List.getElem_toArray, List.getElem_cons_succ, List.getElem_cons_zero, Act.put, List.setIfInBounds_toArray, List.set_cons_zero, List.set_cons_succ]
    refine wpAnyH_norm (l2 := #[true, true, false, false, false, false, false, false, false, false]) (f2 := 8) (by kernel_rfl) (by kernel_rfl) ?_
    refine wpAnyH_take (i := 2) (oi := _) (v := ?_) rfl (by kernel_rfl) (by kernel_rfl) (by kernel_rfl) (fun _ _ _ h => h) (Or.inl ⟨by rfl, ?_⟩) (by assumption) ?_
    rotate_left
    · (intro w hSw; (try dsimp only at hSw); go_simp; try with_reducible rfl)
    simp only [List.getElem_toArray, List.getElem_cons_succ, List.getElem_cons_zero, Act.put, List.setIfInBounds_toArray, List.set_cons_zero, List.set_cons_succ]
    refine wpAnyH_norm (l2 := #[true, true, true, false, false, false, false, false, false, false]) (f2 := 7) (by kernel_rfl) (by kernel_rfl) ?_
    refine wpAnyH_take (i := 3) (oi := _) (v := ?_) rfl (by kernel_rfl) (by kernel_rfl) (by kernel_rfl) (fun _ _ _ h => h) (Or.inl ⟨by rfl, ?_⟩) (by assumption) ?_
    rotate_left
    · (intro w hSw; (try dsimp only at hSw); go_simp; try with_reducible rfl)
    simp only [List.getElem_toArray, List.getElem_cons_succ, List.getElem_cons_zero, Act.put, List.setIfInBounds_toArray, List.set_cons_zero, List.set_cons_succ]
    refine wpAnyH_norm (l2 := #[true, true, true, true, false, false, false, false, false, false]) (f2 := 6) (by kernel_rfl) (by kernel_rfl) ?_
    refine wpAnyH_take (i := 4) (oi := _) (v := .agg L.toArray) rfl (by kernel_rfl) (by kernel_rfl) (by kernel_rfl) (fun _ _ _ h => h) (Or.inl ⟨by rfl, ?_⟩) (by assumption) ?_
    · (intro w hSw; (try dsimp only at hSw); exact ex_load rfl rfl (ld41 hSw.range HLL.out))
    simp only [List.getElem_toArray, List.getElem_cons_succ, List.getElem_cons_zero, Act.put, List.setIfInBounds_toArray, List.set_cons_zero, List.set_cons_succ]
    refine wpAnyH_norm (l2 := #[true, true, true, true, true, false, false, false, false, false]) (f2 := 5) (by kernel_rfl) (by kernel_rfl) ?_
    refine wpAnyH_take (i := 5) (oi := _) (v := .agg L.toArray) rfl (by kernel_rfl) (by kernel_rfl) (by kernel_rfl) (fun _ _ _ h => h) (Or.inl ⟨by rfl, ?_⟩) (by assumption) ?_
    · (intro w hSw; (try dsimp only at hSw); exact ex_load rfl rfl (ld41 hSw.range HLL.out))
    simp only [List.getElem_toArray, List.getElem_cons_succ, List.getElem_cons_zero, Act.put, List.setIfInBounds_toArray, List.set_cons_zero, List.set_cons_succ]
    refine wpAnyH_norm (l2 := #[true, true, true, true, true, true, false, false, false, false]) (f2 := 4) (by kernel_rfl) (by kernel_rfl) ?_
    refine wpAnyH_ready (rs := [6]) (by kernel_rfl) (by simp) ?_
    refine AllReadyH.cons rfl (fun K hK => ?_) AllReadyH.nil
    go_simp
    go_wp2_with (first | (go_at_call 35; refine (kept_c L c _ HC2.out).mono ?_; rintro e w3 ⟨L3, rfl, hk3, hb3⟩; have HK3 := hid (hk3.later hb3); have HC3 := hid (HC2.out.later hb3); have HX3 := hid (HX2.out.later hb3); have HB3 := hid (below_call HB2.out hb3); clear hb3 hk3))
    refine hK.out _ _ (HX3.out) (fun hHeld => ?_)
    clear hK K
    simp only [List.getElem_toArray, List.getElem_cons_succ, List.getElem_cons_zero, Act.put, List.setIfInBounds_toArray, List.set_cons_zero, List.set_cons_succ]
    refine wpAnyH_norm (l2 := #[true, true, true, true, true, true, true, false, false, false]) (f2 := 3) (by kernel_rfl) (by kernel_rfl) ?_
    refine wpAnyH_ready (rs := [7]) (by kernel_rfl) (by simp) ?_
    refine AllReadyH.cons rfl (fun K hK => ?_) AllReadyH.nil
    go_simp
    go_wp2_with (first | (go_at_call 17; refine (same_any L L3 c (kp c) _ HC3.out HK3.out HGN.out).mono ?_; rintro e w4 ⟨rfl, hb4⟩; rw [F2]; have HX4 := hid (HX3.out.later hb4); have HB4 := hid (below_call HB3.out hb4); have HC4 := hid (HC3.out.later hb4); clear hb4))
    refine hK.out _ _ (HX4.out) (fun hHeld => ?_)
    clear hK K
    simp only [List.getElem_toArray, List.getElem_cons_succ, List.getElem_cons_zero, Act.put, List.setIfInBounds_toArray, List.set_cons_zero, List.set_cons_succ]
    refine wpAnyH_norm (l2 := #[true, true, true, true, true, true, true, true, false, false]) (f2 := 2) (by kernel_rfl) (by kernel_rfl) ?_
    refine wpAnyH_take (i := 8) (oi := _) (v := ?_) rfl (by kernel_rfl) (by kernel_rfl) (by kernel_rfl) (fun _ _ _ h => h) (Or.inl ⟨by rfl, ?_⟩) (by assumption) ?_
    rotate_left
    · (intro w hSw; (try dsimp only at hSw); go_simp; try with_reducible rfl)
    simp only [List.getElem_toArray, List.getElem_cons_succ, List.getElem_cons_zero, Act.put, List.setIfInBounds_toArray, List.set_cons_zero, List.set_cons_succ]
    refine wpAnyH_norm (l2 := #[true, true, true, true, true, true, true, true, true, false]) (f2 := 1) (by kernel_rfl) (by kernel_rfl) ?_
    refine wpAnyH_take (i := 9) (oi := _) (v := ?_) rfl (by kernel_rfl) (by kernel_rfl) (by kernel_rfl) (fun _ _ _ h => h) (Or.inl ⟨by rfl, ?_⟩) (by assumption) ?_
    rotate_left
    · (intro w hSw; (try dsimp only at hSw); go_simp; try with_reducible rfl)
    simp only [List.getElem_toArray, List.getElem_cons_succ, List.getElem_cons_zero, Act.put, List.setIfInBounds_toArray, List.set_cons_zero, List.set_cons_succ]
    refine wpAnyH_norm (l2 := #[true, true, true, true, true, true, true, true, true, true]) (f2 := 0) (by kernel_rfl) (by kernel_rfl) ?_
    refine wpAnyH_done (by kernel_rfl) ?_ _
    go_wp2
    exact bodyPost_ret (v := .tuple #[.slice none 0 0, .int .i64 1]) (by simp [results, Try.results20, go_sem]) rfl ⟨rfl, HB4.out⟩
end Go.Proofs.Ytaffgoacbiedlaa
