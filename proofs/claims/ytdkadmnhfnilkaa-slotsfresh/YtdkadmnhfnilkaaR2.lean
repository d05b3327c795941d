import Derived.Test.YtdkadmnhfnilkaaR1
namespace Go.Proofs.Ytdkadmnhfnilkaa
open Go.RowKit
set_option linter.unusedVariables false
set_option linter.unusedSimpArgs false

theorem wpAnyH_norm {P : Program} {md : Region.Mode} {ops : Array Oper} {Q : Exit → Act → World → Prop} {S : World → Prop} {fuel f2 : Nat} {listed l2 : Array Bool} {a : Act} {w : World} (hl : listed = l2) (hf : fuel = f2) (h : wpAnyH P md ops Q S f2 l2 a w) : wpAnyH P md ops Q S fuel listed a w := by
  subst hl hf
  exact h
theorem wp_append_known {P : Program} {w : World} {o : Oper} {a : Act} {K : Act → World → Prop} {Q : Exit → Act → World → Prop} (s x : Operand) (t : TypeId)
    (ho : o.op = .call { callee := .builtin .append, args := #[s, x], argTypes := #[t, t] }) (vs vx : Value) (hs : a.eval s = vs) (hx : a.eval x = vx) (v' : Value) (w' : World)
    (hr : (Builtin.append_ #[t, t] o.type #[vs, vx]).run P w = .ok v' w') (h : K (a.put o.dst v') w') : o.wp P a w K Q := by
  unfold Oper.wp execOp
  simp only [ho, resolve, invoke, builtin, Sem.run_bind, Sem.run_pure, Result.andThen_ok, List.map_toArray, List.map_cons, List.map_nil, hs, hx, hr]
  exact h

set_option maxRecDepth 100000 in
set_option maxHeartbeats 1000000 in
theorem rnew_ok (w : World) (mo kn : Nat) (h1 : 1 ≤ mo) (h2 : mo ≤ 256) (h3 : kn ≤ 64) :
    Calls Try.prog 24 #[.int .i64 (mo : Int), .int .i64 (kn : Int)] w fun e w' => e = .returned (.tuple #[.pointer (some ⟨w.heap.size, 0, none⟩), .int .i64 0]) ∧ Rf w' w.heap.size mo none 0 [] ∧ Below w.heap.size w w' := by
  have hk1 : ¬ (mo : Int) < 1 := by omega
  have hk2 : ¬ (256 : Int) < (mo : Int) := by omega
  have hk3 : ¬ (kn : Int) < 0 := by omega
  have hk4 : ¬ (64 : Int) < (kn : Int) := by omega
  go_enter Try.func24, Try.ntmps24
  go_wp2
  refine bodyPost_ret (v := .tuple #[.pointer (some ⟨w.heap.size, 0, none⟩), .int .i64 0]) (by simp [results, Try.results24, go_sem]) rfl ⟨rfl, ?_, below1 _ _⟩
  exact ⟨by simp [go_sem], ⟨by simp [go_sem], by simp [go_sem]⟩, ⟨rfl, .inl ⟨rfl, rfl⟩⟩, fun k hk => (by obtain ⟨x, hx, _⟩ := hk; cases hx), by simp, fun c hc => by simp at hc⟩
set_option maxRecDepth 100000 in
set_option maxHeartbeats 1000000 in
theorem rnew_bad (w : World) (mo kn : Int) (hb : mo < 1 ∨ 256 < mo ∨ kn < 0 ∨ 64 < kn) :
    Calls Try.prog 24 #[.int .i64 mo, .int .i64 kn] w fun e w' => e = .returned (.tuple #[.pointer none, .int .i64 16]) ∧ w' = w := by
  by_cases h1 : mo < 1
  · clear hb
    go_enter Try.func24, Try.ntmps24
    go_wp2
    exact bodyPost_ret (v := .tuple #[.pointer none, .int .i64 16]) (by simp [results, Try.results24, go_sem]) rfl ⟨rfl, rfl⟩
  by_cases h2 : 256 < mo
  · clear hb
    go_enter Try.func24, Try.ntmps24
    go_wp2
    exact bodyPost_ret (v := .tuple #[.pointer none, .int .i64 16]) (by simp [results, Try.results24, go_sem]) rfl ⟨rfl, rfl⟩
  by_cases h3 : kn < 0
  · clear hb
    go_enter Try.func24, Try.ntmps24
    go_wp2
    exact bodyPost_ret (v := .tuple #[.pointer none, .int .i64 16]) (by simp [results, Try.results24, go_sem]) rfl ⟨rfl, rfl⟩
  · have h4 : 64 < kn := by omega
    clear hb
    go_enter Try.func24, Try.ntmps24
    go_wp2
    exact bodyPost_ret (v := .tuple #[.pointer none, .int .i64 16]) (by simp [results, Try.results24, go_sem]) rfl ⟨rfl, rfl⟩
theorem rat_there {w : World} {g mo : Nat} {a : Option Addr} {cap : Nat} {E : List (Cp × Int)} (h : Rf w g mo a cap E) (o : Int) (hi lo : Nat) (hc : (o, hi, lo) ∈ E.map Prod.fst) :
    Calls Try.prog 53 #[.pointer (some ⟨g, 0, none⟩), .agg #[.int .i64 o, .int .u64 (hi : Int), .int .u64 (lo : Int)]] w fun e w' => ∃ (i : Nat) (v : Int), E[i]? = some ((o, hi, lo), v) ∧ e = .returned (.int .i64 (i : Int)) ∧ Below w.heap.size w w' := by
  refine (rat_any h o hi lo).mono ?_
  rintro e w' ⟨⟨i, v, h1, h2⟩ | ⟨h1, _⟩, hb⟩
  · exact ⟨i, v, h1, h2, hb⟩
  · exact absurd hc h1
theorem rat_none {w : World} {g mo : Nat} {a : Option Addr} {cap : Nat} {E : List (Cp × Int)} (h : Rf w g mo a cap E) (o : Int) (hi lo : Nat) (hc : (o, hi, lo) ∉ E.map Prod.fst) :
    Calls Try.prog 53 #[.pointer (some ⟨g, 0, none⟩), .agg #[.int .i64 o, .int .u64 (hi : Int), .int .u64 (lo : Int)]] w fun e w' => e = .returned (.int .i64 (-1)) ∧ Below w.heap.size w w' := by
  refine (rat_any h o hi lo).mono ?_
  rintro e w' ⟨⟨i, v, h1, h2⟩ | ⟨_, h2⟩, hb⟩
  · exact absurd (List.mem_map.2 ⟨_, List.mem_of_getElem? h1, rfl⟩) hc
  · exact ⟨h2, hb⟩
set_option maxRecDepth 100000 in
set_option maxHeartbeats 1000000 in
theorem rget_none {w : World} {g mo : Nat} {a : Option Addr} {cap : Nat} {E : List (Cp × Int)} (h : Rf w g mo a cap E) (o : Int) (hi lo : Nat) (hc : (o, hi, lo) ∉ E.map Prod.fst) :
    Calls Try.prog 39 #[.pointer (some ⟨g, 0, none⟩), .agg #[.int .i64 o, .int .u64 (hi : Int), .int .u64 (lo : Int)]] w fun e w' => e = .returned (.tuple #[.int .i64 0, .bool false]) ∧ Below w.heap.size w w' := by
  have HH := hid h
  have HC := hid hc
  clear h hc
  go_enter Try.func39, Try.ntmps39
  go_wp2_with (first | (go_at_call 53; refine (rat_none (HH.out.alloc _) o hi lo HC.out).mono ?_; rintro e w2 ⟨rfl, hb2⟩; have HB2 := hid (below_call (below1 _ _) hb2); clear hb2))
  exact bodyPost_ret (v := .tuple #[.int .i64 0, .bool false]) (by simp [results, Try.results39, go_sem]) rfl ⟨rfl, HB2.out⟩
set_option maxRecDepth 100000 in
set_option maxHeartbeats 1000000 in
theorem rget_ok {w : World} {g mo : Nat} {a : Option Addr} {cap : Nat} {E : List (Cp × Int)} (h : Rf w g mo a cap E) (hnd : (E.map Prod.fst).Nodup) (o : Int) (hi lo : Nat) (v : Int) (hc : ((o, hi, lo), v) ∈ E) :
    Calls Try.prog 39 #[.pointer (some ⟨g, 0, none⟩), .agg #[.int .i64 o, .int .u64 (hi : Int), .int .u64 (lo : Int)]] w fun e w' => e = .returned (.tuple #[.int .i64 v, .bool true]) ∧ Below w.heap.size w w' := by
  have HH := hid h
  have HM := hid hc
  have HN := hid hnd
  have HC : Hid ((o, hi, lo) ∈ E.map Prod.fst) := List.mem_map.2 ⟨_, hc, rfl⟩
  have hsm := h.small
  clear h hc hnd
  go_enter Try.func39, Try.ntmps39
  go_upto_region 4 with (first | (go_at_call 53; refine (rat_there (HH.out.alloc _) o hi lo HC.out).mono ?_; rintro e w2 ⟨i, u, hi_, rfl, hb2⟩; have HI := hid hi_; have HB2 := hid (below_call (below1 _ _) hb2); clear hb2 hi_))
  have hR := HH.out.later HB2.out
  have hlt : i < E.length := (List.getElem?_eq_some_iff.1 HI.out).1
  obtain ⟨b, rfl, hP⟩ := prs_at hR.own HI.out
  have x1 := hR.c1.1
  have c3 := hP.c3
  have hu : u = v := one_val HN.out (List.mem_of_getElem? HI.out) HM.out
  subst hu
  clear hR hP
  simp only at c3
  go_wp2
  exact bodyPost_ret (v := .tuple #[.int .i64 u, .bool true]) (by simp [results, Try.results39, go_sem]) rfl ⟨rfl, HB2.out⟩
set_option maxRecDepth 100000 in
set_option maxHeartbeats 1000000 in
theorem rput_there {w : World} {g mo : Nat} {a : Option Addr} {cap : Nat} {E : List (Cp × Int)} (h : Rf w g mo a cap E) (o : Int) (hi lo : Nat) (v : Int) (hc : (o, hi, lo) ∈ E.map Prod.fst) :
    Calls Try.prog 38 #[.pointer (some ⟨g, 0, none⟩), .agg #[.int .i64 o, .int .u64 (hi : Int), .int .u64 (lo : Int)], .int .i64 v] w fun e w' => e = .returned (.int .i64 19) ∧ Below w.heap.size w w' := by
  have HH := hid h
  have HC := hid hc
  clear h hc
  go_enter Try.func38, Try.ntmps38
  go_wp2_with (first | (go_at_call 53; refine (rat_there (HH.out.alloc _) o hi lo HC.out).mono ?_; rintro e w2 ⟨i, u, hi_, rfl, hb2⟩; have HB2 := hid (below_call (below1 _ _) hb2); clear hb2 hi_))
  go_ret
  exact ⟨rfl, HB2.out⟩
set_option maxRecDepth 100000 in
set_option maxHeartbeats 1000000 in
theorem rput_full {w : World} {g mo : Nat} {a : Option Addr} {cap : Nat} {E : List (Cp × Int)} (h : Rf w g mo a cap E) (o : Int) (hi lo : Nat) (v : Int) (hc : (o, hi, lo) ∉ E.map Prod.fst) (hfu : E.length = mo) :
    Calls Try.prog 38 #[.pointer (some ⟨g, 0, none⟩), .agg #[.int .i64 o, .int .u64 (hi : Int), .int .u64 (lo : Int)], .int .i64 v] w fun e w' => e = .returned (.int .i64 10) ∧ Below w.heap.size w w' := by
  have HH := hid h
  have HC := hid hc
  have HF := hid hfu
  clear h hc hfu
  go_enter Try.func38, Try.ntmps38
  go_upto_region 3 with (first | (go_at_call 53; refine (rat_none (HH.out.alloc _) o hi lo HC.out).mono ?_; rintro e w2 ⟨rfl, hb2⟩; have HB2 := hid (below_call (below1 _ _) hb2); clear hb2))
  have hR := HH.out.later HB2.out
  have x0 := hR.c0
  have x1 := hR.c1.1
  rw [HF.out] at x1
  clear hR
  go_quiet (fail)
  go_wp2
  go_ret
  exact ⟨rfl, below_drewN HB2.out _⟩
theorem info94' : Try.prog.cellsOf 94 = 4 := by kernel_rfl
/-- One pair, made to be appended. -/
theorem cr_pair (w : World) (y : Cp × Int) : Cr (w.alloc (Obj.cells #[.int .i64 y.1.1, .int .u64 (y.1.2.1 : Int), .int .u64 (y.1.2.2 : Int), .int .i64 y.2] 94)) 4 (some ⟨w.heap.size, 0, none⟩) 1 1 (prs [y]) :=
  ⟨rfl, fun h => (by cases h), fun x hx j u hu => by
    cases hx
    rw [addr_add0]
    have hj : j < 4 := (List.getElem?_eq_some_iff.1 hu).1
    have hm : j = 0 ∨ j = 1 ∨ j = 2 ∨ j = 3 := by omega
    rcases hm with rfl | rfl | rfl | rfl
    · simp [prs, encP] at hu; rw [← hu]; simp [go_sem]
    · simp [prs, encP] at hu; rw [← hu]; simp [go_sem]
    · simp [prs, encP] at hu; rw [← hu]; simp [go_sem]
    · simp [prs, encP] at hu; rw [← hu]; simp [go_sem], prs_one _⟩
end Go.Proofs.Ytdkadmnhfnilkaa
