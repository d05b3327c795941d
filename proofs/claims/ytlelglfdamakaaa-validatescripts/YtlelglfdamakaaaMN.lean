import Derived.Test.YtlelglfdamakaaaML
namespace Go.Proofs.Ytlelglfdamakaaa.H.I
open Go.RowKit
set_option linter.unusedVariables false

/-- Where a new pair may come: behind the tests of Put. -/
structure Ripe (w w5 : World) (g gb kn mo N : Nat) (E : List (Cp × Int)) (M : List Q) (sq : Nat) (o : Int) (hi lo : Nat) (v : Int) : Prop where
  tm : Tm w5 g gb kn mo (E.length : Int) (sq : Int) N M
  kinds : ∀ (i : Nat) (p : Q), M[i]? = some p → p.k = 0 ∨ p.k = 1 ∨ p.k = 2
  way : Way (hm kn N) (· ≠ 0) M
  perm : (ents M).Perm E
  nodup : (E.map Prod.fst).Nodup
  free : fre M = sq
  pos : 1 ≤ sq
  m1 : 1 ≤ mo
  m2 : 2 * mo ≤ N
  but : But (In g gb) w w5
  bx : Bx w5 w.heap.size o hi lo
theorem Ripe.some {w w5 : World} {g gb kn mo N : Nat} {E : List (Cp × Int)} {M : List Q} {sq : Nat} {o : Int} {hi lo : Nat} {v : Int} (h : Ripe w w5 g gb kn mo N E M sq o hi lo v) : ∃ (i : Nat) (p : Q), M[i]? = some p ∧ p.k ≠ 1 ∧ p.k ≠ 2 := by
  obtain ⟨i, p, hp, hk⟩ := fre_some (L := M) (by rw [h.free]; exact h.pos)
  exact ⟨i, p, hp, by omega, by omega⟩
theorem Ripe.put {w w5 w6 : World} {g gb kn mo N : Nat} {E : List (Cp × Int)} {M : List Q} {sq : Nat} {o : Int} {hi lo : Nat} {v : Int} (h : Ripe w w5 g gb kn mo N E M sq o hi lo v) (hb : Below w5.heap.size w5 w6) (h1 : hi < B64) (h2 : lo < B64) (hc : (o, hi, lo) ∉ E.map Prod.fst) (hl : E.length < mo) {to_ d : Nat} {q : Q} (hd : d < N) (hto : to_ = (hm kn N (o, hi, lo) + d) % N) (hq : M[to_]? = Option.some q) (hq1 : q.k ≠ 1) (hq2 : q.k ≠ 2)
    (hpath : ∀ e, e < d → ∀ p : Q, M[(hm kn N (o, hi, lo) + e) % N]? = Option.some p → p.k = 1 ∨ p.k = 2) :
    Tb (((setP w6 gb (to_ * 5) ⟨1, (o, hi, lo), v⟩).setCell ⟨g, 3, none⟩ (.int .i64 ((E.length : Int) + 1))).setCell ⟨g, 4, none⟩ (.int .i64 ((sq : Int) - 1))) g gb kn mo N (E ++ [((o, hi, lo), v)]) := by
  have hk0 : q.k = 0 := by
    rcases h.kinds _ _ hq with h3 | h3 | h3 <;> omega
  have hlen := h.tm.len
  refine ⟨M.set to_ ⟨1, (o, hi, lo), v⟩, sq - 1, ?_, ?_, ?_, ?_, ?_, ?_, ?_, h.m1, h.m2⟩
  · have t := (((h.tm.later hb).set hq ⟨1, (o, hi, lo), v⟩ ⟨h1, h2⟩).live ((E.length : Int) + 1)).spare ((sq : Int) - 1)
    have e1 : ((E ++ [((o, hi, lo), v)]).length : Int) = (E.length : Int) + 1 := by simp
    have e2 : ((sq - 1 : Nat) : Int) = (sq : Int) - 1 := by have := h.pos; omega
    rw [e1, e2]
    exact t
  · intro j x hx
    rcases get_set hx with ⟨rfl, rfl⟩ | ⟨_, h3⟩
    · exact .inr (.inl rfl)
    · exact h.kinds _ _ h3
  · refine h.way.set (fun _ _ _ => show (1 : Int) ≠ 0 by decide) (fun _ => ?_)
    rw [hlen]
    refine ⟨d, hd, hto, fun e he p hp => ?_⟩
    rcases hpath e he p hp with h3 | h3 <;> (show p.k ≠ 0) <;> omega
  · have ha := ents_add (x := (⟨1, (o, hi, lo), v⟩ : Q)) (y := ((o, hi, lo), v)) hq (by simp [ent, hk0]) (by simp [ent])
    exact (ha.trans (h.perm.cons _)).trans (List.perm_append_comm (l₁ := [((o, hi, lo), v)]))
  · rw [List.map_append, List.nodup_append]
    refine ⟨h.nodup, by simp, ?_⟩
    intro a ha b hb2 heq
    simp only [List.map_cons, List.map_nil, List.mem_singleton] at hb2
    subst hb2 heq
    exact hc ha
  · have hf := fre_put (x := (⟨1, (o, hi, lo), v⟩ : Q)) hq hk0 (show (1 : Int) ≠ 0 by decide)
    have hf2 := h.free
    omega
  · rw [List.length_append]
    simp
    omega

set_option maxRecDepth 100000 in
set_option maxHeartbeats 1000000 in
theorem put_there {w : World} {g gb kn mo N : Nat} {E : List (Cp × Int)} (h : Tb w g gb kn mo N E) (o : Int) (hi lo : Nat) (v : Int) (h1 : hi < B64) (h2 : lo < B64) (hc : (o, hi, lo) ∈ E.map Prod.fst) :
    Calls Try.prog 72 #[.pointer (some ⟨g, 0, none⟩), .agg #[.int .i64 o, .int .u64 (hi : Int), .int .u64 (lo : Int)], .int .i64 v] w fun e w' => e = .returned (.int .i64 19) ∧ Below w.heap.size w w' := by
  obtain ⟨L, sp, h⟩ := h
  have HH := hid h
  have HC := hid hc
  clear h hc
  go_enter Try.func72, Try.ntmps72
  go_wp2_with (first | (go_at_call 75; refine (find_there (HH.out.later (below1 _ _)) o hi lo h1 h2 HC.out).mono ?_; rintro e w2 ⟨i, u, hi_, rfl, hb2⟩; have HB2 := hid (below_call (below1 _ _) hb2); clear hb2 hi_))
  go_ret
  exact ⟨rfl, HB2.out⟩
set_option maxRecDepth 100000 in
set_option maxHeartbeats 1000000 in
theorem put_full {w : World} {g gb kn mo N : Nat} {E : List (Cp × Int)} (h : Tb w g gb kn mo N E) (o : Int) (hi lo : Nat) (v : Int) (h1 : hi < B64) (h2 : lo < B64) (hc : (o, hi, lo) ∉ E.map Prod.fst) (hlt : E.length = mo) :
    Calls Try.prog 72 #[.pointer (some ⟨g, 0, none⟩), .agg #[.int .i64 o, .int .u64 (hi : Int), .int .u64 (lo : Int)], .int .i64 v] w fun e w' => e = .returned (.int .i64 10) ∧ Below w.heap.size w w' := by
  obtain ⟨L, sp, h⟩ := h
  have HH := hid h
  have HC := hid hc
  clear h hc
  have HL := hid hlt
  clear hlt
  go_enter Try.func72, Try.ntmps72
  go_upto_region 4 with (first | (go_at_call 75; refine (find_none (HH.out.later (below1 _ _)) o hi lo h1 h2 HC.out).mono ?_; rintro e w2 ⟨rfl, hb2⟩; have HB2 := hid (below_call (below1 _ _) hb2); clear hb2))
  have hS := HH.out.later HB2.out
  have z3 := hS.tm.a3.1
  rw [HL.out] at z3
  have z2 := hS.tm.a2
  clear hS
  go_quiet (fail)
  go_wp2
  go_ret
  exact ⟨rfl, below_drewN HB2.out _⟩
set_option maxRecDepth 100000 in
set_option maxHeartbeats 20000000 in
theorem put_ok {w : World} {g gb kn mo N : Nat} {E : List (Cp × Int)} (h : Tb w g gb kn mo N E) (o : Int) (hi lo : Nat) (v : Int) (h1 : hi < B64) (h2 : lo < B64) (hc : (o, hi, lo) ∉ E.map Prod.fst) (hlt : E.length < mo) :
    Calls Try.prog 72 #[.pointer (some ⟨g, 0, none⟩), .agg #[.int .i64 o, .int .u64 (hi : Int), .int .u64 (lo : Int)], .int .i64 v] w fun e w' => e = .returned (.int .i64 0) ∧ Tb w' g gb kn mo N (E ++ [((o, hi, lo), v)]) ∧ But (In g gb) w w' := by
  obtain ⟨L, sp, h⟩ := h
  have HH := hid h
  have HC := hid hc
  have hpos := h.tm.pos
  have hbig := h.tm.big
  have hm2 := h.m2
  have hne : ¬ g = gb := h.tm.ne
  have hl1 := h.tm.lt
  have hl2 := h.tm.lt2
  have hsp : sp ≤ 1024 := by have := fre_le L; rw [h.free, h.tm.len] at this; omega
  have hnb : ¬ w.heap.size = gb := by omega
  have hnin : Hid (¬ In g gb w.heap.size) := by rintro (h3 | h3) <;> omega
  clear h hc
  go_enter Try.func72, Try.ntmps72
  go_upto_region 4 with (first | (go_at_call 75; refine (find_none (HH.out.later (below1 _ _)) o hi lo h1 h2 HC.out).mono ?_; rintro e w2 ⟨rfl, hb2⟩; have HB2 := hid (below_call (below1 _ _) hb2); have BX := hid ((Bx.new w o hi lo).later hb2); clear hb2))
  have hS := HH.out.later HB2.out
  have z3 := hS.tm.a3.1
  have z2 := hS.tm.a2
  have HS2 := hid hS
  clear hS
  go_quiet (fail)
  by_cases hrare : 4 * sp < N
  · have hd : decide (4 * sp < N) = true := decide_eq_true hrare
    clear hrare
    go_upto_region 8 with (first | (go_at_call 85; refine (remake_any HT3.out HS2.out.kinds (by omega) (by omega)).mono ?_; rintro e w4 ⟨rfl, hA⟩; have HA := hid hA; clear hA) | (go_at_call 84; refine (rare_any (HS2.out.tm.later (below_drewN (Below.refl _ _) _)) hsp).mono ?_; rintro e w3 ⟨rfl, hb3⟩; rw [hd]; have HB3 := hid (below_call (below_drewN (Below.refl _ _) _) hb3); have HT3 := hid (HS2.out.tm.later HB3.out); clear hb3))
    obtain ⟨w5, sq, M, hw5, RP⟩ : ∃ (w5 : World) (sq : Nat) (M : List Q), w5 = w4 ∧ Hid (Ripe w w5 g gb kn mo N E M sq o hi lo v) := by
      obtain ⟨M, hT4, hk4, hw4, hp4, hb4⟩ := HA.out
      have hl4 := (hp4.trans HS2.out.perm).length_eq
      have hfa := fre_all hk4
      rw [hT4.len, hl4] at hfa
      refine ⟨w4, N - E.length, M, rfl, ⟨?_, fun i p hp => ?_, hw4, hp4.trans HS2.out.perm, HS2.out.nodup, by omega, by omega, HS2.out.m1, hm2, (But.of (below_call HB2.out HB3.out)).trans hb4, (BX.out.later HB3.out).but hb4 hnin.out⟩⟩
      · have e1 : ((N - E.length : Nat) : Int) = (N : Int) - (E.length : Int) := by omega
        rw [e1]
        exact hT4
      · rcases hk4 i p hp with h3 | h3
        · exact .inl h3
        · exact .inr (.inl h3)
    rw [← hw5]
    clear hw5 HA z3 z2
    have hfin : ∀ (W w6 : World) (to_ d : Nat) (q : Q), Below w5.heap.size w5 w6 → d < N → to_ = (hm kn N (o, hi, lo) + d) % N → M[to_]? = some q → q.k ≠ 1 → q.k ≠ 2 → (∀ e, e < d → ∀ p : Q, M[(hm kn N (o, hi, lo) + e) % N]? = some p → p.k = 1 ∨ p.k = 2) →
        W = ((setP w6 gb (to_ * 5) ⟨1, (o, hi, lo), v⟩).setCell ⟨g, 3, none⟩ (.int .i64 ((E.length : Int) + 1))).setCell ⟨g, 4, none⟩ (.int .i64 ((sq : Int) - 1)) → Tb W g gb kn mo N (E ++ [((o, hi, lo), v)]) ∧ But (In g gb) w W := by
      rintro W w6 to_ d q hb hd hto hq hq1 hq2 hpath rfl
      exact ⟨RP.out.put hb h1 h2 HC.out hlt hd hto hq hq1 hq2 hpath, ((setP_but (RP.out.but.call hb) (.inr rfl) _ _).setCell (p := ⟨g, 3, none⟩) (.inl rfl) _).setCell (p := ⟨g, 4, none⟩) (.inl rfl) _⟩
    have HF := hid hfin
    clear hfin
    have hex := hid RP.out.some
    have hsq1 : 1 ≤ sq := RP.out.pos
    have hsq2 : sq ≤ 1024 := by have h3 := fre_le M; rw [RP.out.free, RP.out.tm.len] at h3; omega
    have hC : Hid (∀ U : World, But (· = gb) w5 U → (U.cell? ⟨g, 0, none⟩ = some (.slice (some ⟨gb, 0, none⟩) N N) ∧ U.cell? ⟨w.heap.size, 0, none⟩ = some (.int .i64 o) ∧ U.cell? ⟨w.heap.size, 1, none⟩ = some (.int .u64 (hi : Int)) ∧ U.cell? ⟨w.heap.size, 2, none⟩ = some (.int .u64 (lo : Int))) ∧ But (· = gb) w5 U) := fun U hU => ⟨⟨cell_but hU RP.out.tm.a0 hne, cell_but hU RP.out.bx.c0 hnb, cell_but hU RP.out.bx.c1 hnb, cell_but hU RP.out.bx.c2 hnb⟩, hU⟩
    obtain ⟨z0, b0, b1, b2⟩ := (hC.out w5 (But.refl _ _)).1
    go_region_held3 (fun U => (U.cell? ⟨g, 0, none⟩ = some (.slice (some ⟨gb, 0, none⟩) N N) ∧ U.cell? ⟨w.heap.size, 0, none⟩ = some (.int .i64 o) ∧ U.cell? ⟨w.heap.size, 1, none⟩ = some (.int .u64 (hi : Int)) ∧ U.cell? ⟨w.heap.size, 2, none⟩ = some (.int .u64 (lo : Int))) ∧ But (· = gb) w5 U) (first | exact hC.out _ hst.out | exact hC.out _ hb6.out | exact hC.out _ (But.of (Below.refl _ _).drew)) (first | (go_at_call 86; refine (open_any (RP.out.tm.later (Below.refl _ _).drew) hex.out o hi lo h1 h2).mono ?_; rintro e w6 ⟨⟨to_, d, q, s1, s2, s3, s4, s5, s6, rfl⟩, hb6'⟩; have HS := hid (And.intro s1 (And.intro s2 (And.intro s3 (And.intro s4 (And.intro s5 s6))))); have hb7 := hid (below_call (Below.refl w5.heap.size w5).drew hb6'); have hb6 := hid (But.of (S := (· = gb)) hb7.out); have hst := hid (setP_but (S := (· = gb)) hb6.out (b := gb) (by rfl) (to_ * 5) ⟨1, (o, hi, lo), v⟩); have hto2 : to_ < N := (by rw [s2]; exact Nat.mod_lt _ hpos); have T6 := hid (RP.out.tm.later hb7.out); clear s1 s2 s4 s5 s6 hb6'; obtain ⟨p0, p1, p2, p3, p4⟩ := T6.out.at_ _ _ s3; have y3 := T6.out.a3.1; have y3' := T6.out.a3.2; have y4 := T6.out.a4.1; have y4' := T6.out.a4.2; have hfr := T6.out.fr; clear s3))
    go_wp2
    go_ret
    obtain ⟨s1, s2, s3, s4, s5, s6⟩ := HS.out
    exact ⟨rfl, HF.out _ w6 to_ d q hb7.out s1 s2 s3 s4 s5 s6 rfl⟩
  · have hd : decide (4 * sp < N) = false := decide_eq_false hrare
    have hsp1 : 1 ≤ sp := by omega
    clear hrare
    go_upto_region 8 with (first | (go_at_call 84; refine (rare_any (HS2.out.tm.later (below_drewN (Below.refl _ _) _)) hsp).mono ?_; rintro e w3 ⟨rfl, hb3⟩; rw [hd]; have HB3 := hid (below_call (below_drewN (Below.refl _ _) _) hb3); clear hb3))
    obtain ⟨w5, sq, M, hw5, RP⟩ : ∃ (w5 : World) (sq : Nat) (M : List Q), w5 = w3 ∧ Hid (Ripe w w5 g gb kn mo N E M sq o hi lo v) :=
      ⟨w3, sp, L, rfl, ⟨HS2.out.tm.later HB3.out, HS2.out.kinds, HS2.out.way, HS2.out.perm, HS2.out.nodup, HS2.out.free, hsp1, HS2.out.m1, hm2, But.of (below_call HB2.out HB3.out), BX.out.later HB3.out⟩⟩
    rw [← hw5]
    clear hw5 z3 z2
    have hfin : ∀ (W w6 : World) (to_ d : Nat) (q : Q), Below w5.heap.size w5 w6 → d < N → to_ = (hm kn N (o, hi, lo) + d) % N → M[to_]? = some q → q.k ≠ 1 → q.k ≠ 2 → (∀ e, e < d → ∀ p : Q, M[(hm kn N (o, hi, lo) + e) % N]? = some p → p.k = 1 ∨ p.k = 2) →
        W = ((setP w6 gb (to_ * 5) ⟨1, (o, hi, lo), v⟩).setCell ⟨g, 3, none⟩ (.int .i64 ((E.length : Int) + 1))).setCell ⟨g, 4, none⟩ (.int .i64 ((sq : Int) - 1)) → Tb W g gb kn mo N (E ++ [((o, hi, lo), v)]) ∧ But (In g gb) w W := by
      rintro W w6 to_ d q hb hd hto hq hq1 hq2 hpath rfl
      exact ⟨RP.out.put hb h1 h2 HC.out hlt hd hto hq hq1 hq2 hpath, ((setP_but (RP.out.but.call hb) (.inr rfl) _ _).setCell (p := ⟨g, 3, none⟩) (.inl rfl) _).setCell (p := ⟨g, 4, none⟩) (.inl rfl) _⟩
    have HF := hid hfin
    clear hfin
    have hex := hid RP.out.some
    have hsq1 : 1 ≤ sq := RP.out.pos
    have hsq2 : sq ≤ 1024 := by have h3 := fre_le M; rw [RP.out.free, RP.out.tm.len] at h3; omega
    have hC : Hid (∀ U : World, But (· = gb) w5 U → (U.cell? ⟨g, 0, none⟩ = some (.slice (some ⟨gb, 0, none⟩) N N) ∧ U.cell? ⟨w.heap.size, 0, none⟩ = some (.int .i64 o) ∧ U.cell? ⟨w.heap.size, 1, none⟩ = some (.int .u64 (hi : Int)) ∧ U.cell? ⟨w.heap.size, 2, none⟩ = some (.int .u64 (lo : Int))) ∧ But (· = gb) w5 U) := fun U hU => ⟨⟨cell_but hU RP.out.tm.a0 hne, cell_but hU RP.out.bx.c0 hnb, cell_but hU RP.out.bx.c1 hnb, cell_but hU RP.out.bx.c2 hnb⟩, hU⟩
    obtain ⟨z0, b0, b1, b2⟩ := (hC.out w5 (But.refl _ _)).1
    go_region_held3 (fun U => (U.cell? ⟨g, 0, none⟩ = some (.slice (some ⟨gb, 0, none⟩) N N) ∧ U.cell? ⟨w.heap.size, 0, none⟩ = some (.int .i64 o) ∧ U.cell? ⟨w.heap.size, 1, none⟩ = some (.int .u64 (hi : Int)) ∧ U.cell? ⟨w.heap.size, 2, none⟩ = some (.int .u64 (lo : Int))) ∧ But (· = gb) w5 U) (first | exact hC.out _ hst.out | exact hC.out _ hb6.out | exact hC.out _ (But.of (Below.refl _ _).drew)) (first | (go_at_call 86; refine (open_any (RP.out.tm.later (Below.refl _ _).drew) hex.out o hi lo h1 h2).mono ?_; rintro e w6 ⟨⟨to_, d, q, s1, s2, s3, s4, s5, s6, rfl⟩, hb6'⟩; have HS := hid (And.intro s1 (And.intro s2 (And.intro s3 (And.intro s4 (And.intro s5 s6))))); have hb7 := hid (below_call (Below.refl w5.heap.size w5).drew hb6'); have hb6 := hid (But.of (S := (· = gb)) hb7.out); have hst := hid (setP_but (S := (· = gb)) hb6.out (b := gb) (by rfl) (to_ * 5) ⟨1, (o, hi, lo), v⟩); have hto2 : to_ < N := (by rw [s2]; exact Nat.mod_lt _ hpos); have T6 := hid (RP.out.tm.later hb7.out); clear s1 s2 s4 s5 s6 hb6'; obtain ⟨p0, p1, p2, p3, p4⟩ := T6.out.at_ _ _ s3; have y3 := T6.out.a3.1; have y3' := T6.out.a3.2; have y4 := T6.out.a4.1; have y4' := T6.out.a4.2; have hfr := T6.out.fr; clear s3))
    go_wp2
    go_ret
    obtain ⟨s1, s2, s3, s4, s5, s6⟩ := HS.out
    exact ⟨rfl, HF.out _ w6 to_ d q hb7.out s1 s2 s3 s4 s5 s6 rfl⟩
end Go.Proofs.Ytlelglfdamakaaa.H.I
namespace Go.Proofs.Ytlelglfdamakaaa.H.I
open Go.RowKit
set_option linter.unusedVariables false

def ForRel (w : World) (mo : Nat) (t : Value) (w' : World) : Prop := ∃ n : Nat, 2 ≤ n ∧ n < 4 * mo ∧ t = .int .i64 (n : Int) ∧ w' = w
set_option maxRecDepth 100000 in
set_option maxHeartbeats 1000000 in
theorem places_any (w : World) (mo : Nat) (h1 : 1 ≤ mo) (h2 : mo ≤ 256) :
    Calls Try.prog 70 #[.int .i64 (mo : Int)] w fun e w' => (∃ N : Nat, 2 * mo ≤ N ∧ N ≤ 1024 ∧ e = .returned (.int .i64 (N : Int))) ∧ w' = w := by
  go_enter Try.func70, Try.ntmps70
  go_wp2
  go_loopw [3] (ForRel w mo) (fun t _ => 1024 - (intOf t).toNat)
  case atStart => exact ⟨2, by omega, by omega, rfl, rfl⟩
  case round =>
    obtain ⟨n, hn, hn2, rfl, rfl⟩ := hrel
    by_cases hlt : n < 2 * mo
    · have hlt2 : (n : Int) < 2 * (mo : Int) := by omega
      go_wp2
      exact ⟨⟨n * 2, by omega, by omega, by go_num, rfl⟩, by simp [intOf]; omega⟩
    · have hlt2 : ¬ (n : Int) < 2 * (mo : Int) := by omega
      go_wp2
      go_ret
      exact ⟨⟨n, by omega, by omega, rfl⟩, rfl⟩
theorem info149 : (Try.prog.info? 149).map (fun i => (i.zero, i.size, i.bytes)) = some (some (.agg #[.int .i64 0, .int .i64 0, .int .u64 0, .int .u64 0, .int .i64 0]), 5, 40) := by kernel_rfl
/-- A free place. -/
def pz : Q := ⟨0, (0, 0, 0), 0⟩
theorem get_rep {n i : Nat} {p : Q} (h : (List.replicate n pz)[i]? = some p) : i < n ∧ p = pz := by
  rw [List.getElem?_replicate] at h
  split at h
  · next h1 => exact ⟨h1, (Option.some.inj h).symm⟩
  · cases h
theorem make_run (w : World) (n : Nat) (hn : n ≤ 1024) :
    ∃ w', (Instr.makeSlice 140 (.int .i64 (n : Int)) (.int .i64 (n : Int))).run Try.prog w = .ok (.slice (some ⟨w.heap.size, 0, none⟩) n n) w' ∧ (∀ (i : Nat) (p : Q), (List.replicate n pz)[i]? = some p → Pa w' w.heap.size (i * 5) p) ∧ (∀ j, w'.frozen? ⟨w.heap.size, j, none⟩ = false) ∧ w.heap.size < w'.heap.size ∧ Below w.heap.size w w' := by
  obtain ⟨i, hi, hz0, hz1, hz2⟩ := info_parts info149
  obtain ⟨w', hr, ho, hg⟩ := run_make_full (P := Try.prog) w w.heap.size 140 149 i _ 5 Try.underlying140 hi hz0 hz1 .i64 .i64 n (by rw [hz2]; omega) (by unfold maxLen; omega) (Nat.le_refl _)
  have hcell : ∀ j c u, j < n → c < 5 → (#[.int .i64 0, .int .i64 0, .int .u64 0, .int .u64 0, .int .i64 0] : Array Value)[c]! = u → w'.cell? ⟨w.heap.size, j * 5 + c, none⟩ = some u := by
    intro j c u hj hc hu
    have hm : (j * 5 + c) % 5 = c := by omega
    have := ho.cells (g := w.heap.size) rfl (j * 5 + c) u (by
      rw [Array.getElem?_toList]
      simp only [madeCells, Value.cells, Array.getElem?_map, Array.getElem?_range]
      rw [if_pos (by omega)]
      simp only [Option.map_some, Option.some.injEq, Array.size, List.length, hm]
      exact hu)
    rw [addr_add0] at this
    exact this
  refine ⟨w', hr, fun j p hp => ?_, fun j => ?_, ?_, (Below.refl _ _).grown hg (Nat.le_refl _) (fun k hk => by cases hk)⟩
  · obtain ⟨hj, rfl⟩ := get_rep hp
    exact ⟨hcell j 0 _ hj (by omega) rfl, hcell j 1 _ hj (by omega) rfl, hcell j 2 _ hj (by omega) rfl, hcell j 3 _ hj (by omega) rfl, hcell j 4 _ hj (by omega) rfl⟩
  · rcases ho.2 with ⟨h0, _⟩ | ⟨g, c, cur, hv, _, hh, hc, _⟩
    · simp at h0
    · simp only [Value.slice.injEq, Option.some.injEq, Addr.mk.injEq] at hv
      obtain ⟨⟨rfl, _⟩, _, rfl⟩ := hv
      simp [World.frozen?, hh]
  · exact (own_block ho _ rfl).2
theorem fre_rep (n : Nat) : fre (List.replicate n pz) = n := by
  unfold fre
  rw [List.countP_replicate]
  simp [pz]
theorem ents_rep (n : Nat) : ents (List.replicate n pz) = [] := by
  unfold ents
  rw [List.filterMap_eq_nil_iff]
  intro a ha
  rw [(List.mem_replicate.1 ha).2]
  simp [ent, pz]
/-- Behind New. -/
def Fresh (w : World) (kn mo : Nat) (e : Ending) (w' : World) : Prop :=
  ∃ g gb N : Nat, e = .returned (.tuple #[.pointer (some ⟨g, 0, none⟩), .int .i64 0]) ∧ Tb w' g gb kn mo N [] ∧ w.heap.size ≤ g ∧ w.heap.size ≤ gb ∧ Below w.heap.size w w'
set_option maxRecDepth 100000 in
set_option maxHeartbeats 1000000 in
theorem new_ok (w : World) (mo kn : Nat) (h1 : 1 ≤ mo) (h2 : mo ≤ 256) (h3 : kn ≤ 64) :
    Calls Try.prog 50 #[.int .i64 (mo : Int), .int .i64 (kn : Int)] w (Fresh w kn mo) := by
  have hk1 : ¬ (mo : Int) < 1 := by omega
  have hk2 : ¬ (256 : Int) < (mo : Int) := by omega
  have hk3 : ¬ (kn : Int) < 0 := by omega
  have hk4 : ¬ (64 : Int) < (kn : Int) := by omega
  go_enter Try.func50, Try.ntmps50
  go_upto_region 4 with (first | (go_at_call 70; refine (places_any _ mo h1 h2).mono ?_; rintro e w1 ⟨⟨N, hN1, hN2, rfl⟩, rfl⟩))
  obtain ⟨w2, hr, hA, hF, hsz, hb⟩ := make_run w1 N hN2
  have HA := hid hA
  have HFr := hid hF
  have HB := hid hb
  clear hA hF hb
  go_wp2
  refine bodyPost_ret (v := .tuple #[.pointer (some ⟨w2.heap.size, 0, none⟩), .int .i64 0]) (by simp [results, Try.results50, go_sem]) rfl ⟨w2.heap.size, w1.heap.size, N, rfl, ?_, HB.out.size, Nat.le_refl _, HB.out.alloc HB.out.size _⟩
  have hal := fun (p : Addr) (v : Value) (hv : w2.cell? p = some v) => cell_later (below1 w2 (Obj.cells #[.slice (some ⟨w1.heap.size, 0, none⟩) N N, .int .i64 (kn : Int), .int .i64 (mo : Int), .int .i64 0, .int .i64 (N : Int)] 142)) hv
  have hsh : But (fun _ => False) w2 (w2.alloc (Obj.cells #[.slice (some ⟨w1.heap.size, 0, none⟩) N N, .int .i64 (kn : Int), .int .i64 (mo : Int), .int .i64 0, .int .i64 (N : Int)] 142)) := But.of (below1 _ _)
  refine ⟨List.replicate N pz, N, ⟨by simp [go_sem], by simp [go_sem], by simp [go_sem], ⟨by simp [go_sem], by simp [go_sem]⟩, ⟨by simp [go_sem], by simp [go_sem]⟩, fun j => ?_, fun i p hp => (HA.out i p hp).but hsh (fun h => h), by omega, by simp, by omega, hN2, fun i p hp => ?_⟩, fun i p hp => ?_, fun i p hp hk => ?_, by rw [ents_rep], by simp, fre_rep N, Nat.zero_le _, h1, hN1⟩
  · rw [World.frozen?_of_block (w := w2) (hsh.block w1.heap.size hsz (fun h => h))]
    exact HFr.out j
  · rw [(get_rep hp).2]
    exact ⟨show (0 : Nat) < B64 by decide, show (0 : Nat) < B64 by decide⟩
  · rw [(get_rep hp).2]
    exact .inl rfl
  · rw [(get_rep hp).2] at hk
    exact absurd hk (show ¬ (0 : Int) = 1 by decide)
end Go.Proofs.Ytlelglfdamakaaa.H.I
