import Derived.Test.YtfcfacchppkmdaaE1
namespace Go.Proofs.Ytfcfacchppkmdaa
open Go.RowKit
set_option linter.unusedVariables false
set_option linter.unusedSimpArgs false

/-- The document's arena: its box r, its pages' block rb. -/
structure Ref (w : World) (r rb n : Nat) (t : Nat → Bool) (B : Nat → Nat → Nat) : Prop where
  ne : r ≠ rb
  le : n ≤ 256
  head : w.cell? ⟨r, 0, none⟩ = some (.slice (some ⟨rb, 0, none⟩) n n)
  on : ∀ i, i < n → Lies w ⟨rb, i * 65, none⟩ (.bool (t i))
  byte : ∀ i j, i < n → j < 64 → Lies w ⟨rb, i * 65 + 1 + j, none⟩ (.int .u8 ((B i j : Nat) : Int))
  lt : rb < w.heap.size
  only : ∀ i, t i = true → i < n
  small : ∀ i j, B i j < 256
theorem Ref.but {S : Nat → Prop} {w w' : World} {r rb n : Nat} {t : Nat → Bool} {B : Nat → Nat → Nat} (hb : But S w w') (h : Ref w r rb n t B) (h1 : ¬ S r) (h2 : ¬ S rb) : Ref w' r rb n t B :=
  ⟨h.ne, h.le, cell_but hb h.head h1, fun i hi => (h.on i hi).but hb h2, fun i j hi hj => (h.byte i j hi hj).but hb h2, Nat.lt_of_lt_of_le h.lt hb.size, h.only, h.small⟩
theorem Ref.later {w w' : World} {r rb n : Nat} {t : Nat → Bool} {B : Nat → Nat → Nat} (hb : Below w.heap.size w w') (h : Ref w r rb n t B) : Ref w' r rb n t B :=
  h.but (S := fun _ => False) (But.of hb) (fun h => h) (fun h => h)
theorem Ref.rlt {w : World} {r rb n : Nat} {t : Nat → Bool} {B : Nat → Nat → Nat} (h : Ref w r rb n t B) : r < w.heap.size := World.block_lt_of_cell? _ _ h.head
theorem Ref.congr {w : World} {r rb n : Nat} {t : Nat → Bool} {B C : Nat → Nat → Nat} (h : Ref w r rb n t B) (e : B = C) : Ref w r rb n t C := e ▸ h
theorem info78 : (Try.prog.info? 78).map (fun i => (i.zero, i.size, i.bytes)) = some (some (.agg (#[.bool false] ++ Array.replicate 64 (.int .u8 0))), 65, 65) := by kernel_rfl
theorem info68 : (Try.prog.info? 68).map (fun i => (i.zero, i.size, i.bytes)) = some (some (.agg #[.slice none 0 0]), 1, 24) := by kernel_rfl
theorem zcell78 (i j : Nat) : ((#[Value.bool false] ++ Array.replicate 64 (Value.int .u8 0)) : Array Value)[(i * 65 + j) % 65]! = if j % 65 = 0 then .bool false else .int .u8 0 := by
  have e : (i * 65 + j) % 65 = j % 65 := by omega
  rw [e]
  have hl : j % 65 < 65 := Nat.mod_lt _ (by omega)
  generalize j % 65 = k at hl ⊢
  by_cases h : k = 0
  · subst h; rfl
  · rw [if_neg h, getElem!_pos _ k (by simpa using hl), Array.getElem_append_right (by simp; omega)]
    simp
theorem make_refs (w : World) (n : Nat) (hn : n ≤ 256) : ∃ w', (Instr.makeSlice 66 (.int .i64 (n : Int)) (.int .i64 (n : Int))).run Try.prog w = .ok (.slice (some ⟨w.heap.size, 0, none⟩) n n) w' ∧
    (∀ i j, i < n → j < 65 → Lies w' ⟨w.heap.size, i * 65 + j, none⟩ (if j = 0 then .bool false else .int .u8 0)) ∧ w.heap.size < w'.heap.size ∧ Below w.heap.size w w' := by
  obtain ⟨i, hi, hz0, hz1, hz2⟩ := info_parts info78
  obtain ⟨w', hr, ho, hg⟩ := run_make_full (P := Try.prog) w w.heap.size 66 78 i _ 65 Try.underlying66 hi hz0 hz1 .i64 .i64 n (by rw [hz2]; omega) (by unfold maxLen; omega) (Nat.le_refl _)
  rcases ho.2 with ⟨h0, _⟩ | ⟨g, c, cur, hv, hg2, hh, hc, hm, hsz, htk⟩
  · simp at h0
  · simp only [Value.slice.injEq, Option.some.injEq, Addr.mk.injEq] at hv
    obtain ⟨⟨rfl, _⟩, _, rfl⟩ := hv
    refine ⟨w', hr, fun a j ha hj => ⟨?_, by simp [World.frozen?, hh]⟩, (Array.getElem?_eq_some_iff.1 hh).1, (Below.refl _ _).grown hg (Nat.le_refl _) (fun k hk => by cases hk)⟩
    have hlt : a * 65 + j < n * 65 := by omega
    have hz := zcell78 a j
    rw [Nat.mod_eq_of_lt hj] at hz
    have hq := ho.cells (g := w.heap.size) rfl (a * 65 + j) (if j = 0 then .bool false else .int .u8 0) (by
      simp only [madeCells, Array.getElem?_toList, Value.cells]
      rw [Array.getElem?_map, Array.getElem?_range, if_pos hlt]
      simp only [Option.map_some]
      rw [← hz]
      simp)
    rwa [addr_add0] at hq
set_option maxRecDepth 100000 in
set_option maxHeartbeats 1000000 in
theorem rnew_ok (n : Nat) (w : World) (hn : n ≤ 256) :
    Calls Try.prog 19 #[.int .i64 (n : Int)] w fun e w' => ∃ r rb, e = .returned (.tuple #[.pointer (some ⟨r, 0, none⟩), .int .i64 0]) ∧ Ref w' r rb n (fun _ => false) (fun _ _ => 0) ∧ w.heap.size ≤ r ∧ w.heap.size ≤ rb ∧ Below w.heap.size w w' := by
  obtain ⟨w1, hmk, hl, hlt, hb⟩ := make_refs w n hn
  have hd1 : decide ((n : Int) < 0) = false := decide_eq_false (by omega)
  have hd2 : decide ((n : Int) > 256) = false := decide_eq_false (by omega)
  have HL := hid hl
  have HB := hid hb
  clear hl hb
  go_enter Try.func19, Try.ntmps19
  go_wp2
  have hb2 := below1 w1 (.cells #[Value.slice (some ⟨w.heap.size, 0, none⟩) n n] 68)
  refine bodyPost_ret (v := .tuple #[.pointer (some ⟨w1.heap.size, 0, none⟩), .int .i64 0]) (by simp [results, Try.results19, go_sem]) rfl ⟨_, w.heap.size, rfl, ⟨by omega, hn, by simp [go_sem], fun i hi => ?_, fun i j hi hj => ?_, (by simp; omega), fun _ h => (by cases h), fun _ _ => (by omega)⟩, by omega, Nat.le_refl _, below_call HB.out hb2⟩
  · have := (HL.out i 0 hi (by omega)).later hb2
    rwa [Nat.add_zero, if_pos rfl] at this
  · have := (HL.out i (1 + j) hi (by omega)).later hb2
    rwa [← Nat.add_assoc, if_neg (by omega)] at this
set_option maxRecDepth 100000 in
set_option maxHeartbeats 1000000 in
theorem rnew_bad (n : Int) (w : World) (hn : n < 0 ∨ 256 < n) :
    Calls Try.prog 19 #[.int .i64 n] w fun e w' => e = .returned (.tuple #[.pointer none, .int .i64 16]) ∧ w' = w := by
  by_cases h0 : n < 0
  · have hd1 : decide (n < 0) = true := decide_eq_true h0
    go_enter Try.func19, Try.ntmps19
    go_wp2
    exact bodyPost_ret (v := .tuple #[.pointer none, .int .i64 16]) (by simp [results, Try.results19, go_sem]) rfl ⟨rfl, rfl⟩
  · have hd1 : decide (n < 0) = false := decide_eq_false h0
    have hd2 : decide (n > 256) = true := decide_eq_true (by omega)
    go_enter Try.func19, Try.ntmps19
    go_wp2
    exact bodyPost_ret (v := .tuple #[.pointer none, .int .i64 16]) (by simp [results, Try.results19, go_sem]) rfl ⟨rfl, rfl⟩
set_option maxRecDepth 100000 in
set_option maxHeartbeats 1000000 in
theorem rtaken_any (r rb n : Nat) (t : Nat → Bool) (B : Nat → Nat → Nat) (w : World) (h : Ref w r rb n t B) :
    Calls Try.prog 33 #[.pointer (some ⟨r, 0, none⟩)] w fun e w' => ∃ a m cap, e = .returned (.slice a m cap) ∧ Own w' w.heap.size 3 a m cap (ints (nats (lst n t true))) ∧ Below w.heap.size w w' := by
  have HA := hid h
  have hn := h.le
  clear h
  go_enter Try.func33, Try.ntmps33
  go_wp2
  go_loopw [3, 4] (ListRel w n t true) (fun _ k _ => n - (intOf k).toNat)
  case atStart => exact ⟨0, none, 0, 0, rfl, rfl, Nat.zero_le _, Nat.le_refl _, Own.nil _ _ _, Below.refl _ _⟩
  case round =>
    obtain ⟨i, a, m, cap, rfl, rfl, hi, hm, hO, hB⟩ := hrel
    have HO := hid hO
    have HB := hid hB
    have x := (HA.out.later hB).head
    clear hO hB
    by_cases hlt : i < n
    · have hd : decide ((i : Int) < (n : Int)) = true := decide_eq_true (by omega)
      have y := ((HA.out.later HB.out).on i hlt).1
      cases he : t i with
      | true =>
        rw [he] at y
        obtain ⟨a', cap', w2, hrun, hO2, hG⟩ := append_one (i : Int) (.inl HO.out) HB.out.size (by omega)
        have HRUN := hid hrun
        have hB2 : Below w.heap.size w w2 := HB.out.trans (Gr.below HO.out hG HB.out.size)
        have HO2 : Hid (Own w2 w.heap.size 3 a' (m + 1) cap' (ints (nats (lst (i + 1) t true)))) := by
          rw [lst_succ, he, nats_append]
          exact hO2
        have HB2 := hid hB2
        clear hrun hO2 hG hB2
        go_wp2_with (first | (at_builtin; refine wpList_append_known rfl _ _ 22 rfl _ _ rfl rfl _ w2 HRUN.out ?_))
        exact ⟨⟨i + 1, a', m + 1, cap', rfl, rfl, by omega, by omega, HO2.out, HB2.out⟩, by simp [intOf]; omega⟩
      | false =>
        rw [he] at y
        have HO2 : Hid (Own wr w.heap.size 3 a m cap (ints (nats (lst (i + 1) t true)))) := by
          refine hid ?_
          rw [lst_succ, he]
          simpa using HO.out
        go_wp2
        exact ⟨⟨i + 1, a, m, cap, rfl, rfl, by omega, by omega, HO2.out, HB.out⟩, by simp [intOf]; omega⟩
    · obtain rfl : i = n := by omega
      have hd : decide ((i : Int) < (i : Int)) = false := by simp
      go_wp2
      go_ret
      exact ⟨a, m, cap, rfl, HO.out, HB.out⟩
set_option maxRecDepth 100000 in
set_option maxHeartbeats 1000000 in
theorem ris_any (r rb n : Nat) (t : Nat → Bool) (B : Nat → Nat → Nat) (p : Int) (w : World) (h : Ref w r rb n t B) :
    Calls Try.prog 35 #[.pointer (some ⟨r, 0, none⟩), .int .i64 p] w fun e w' => e = .returned (.bool (thr n p && t p.toNat)) ∧ w' = w := by
  have x := h.head
  have HA := hid h
  clear h
  by_cases h0 : 0 ≤ p
  · have hg : decide (p ≥ 0) = true := decide_eq_true h0
    by_cases h1 : p < (n : Int)
    · obtain ⟨q, rfl⟩ : ∃ q : Nat, p = (q : Int) := ⟨p.toNat, by omega⟩
      have hl : decide ((q : Int) < (n : Int)) = true := decide_eq_true h1
      have e : (thr n (q : Int) && t (q : Int).toNat) = t q := by
        rw [Int.toNat_natCast, thr, decide_eq_true (by omega), Bool.true_and]
      have y := (HA.out.on q (by omega)).1
      rw [e]
      have hqn : q < n := by omega
      clear e
      go_enter Try.func35, Try.ntmps35
      go_wp2
      go_ret
      exact ⟨rfl, rfl⟩
    · have hl : decide (p < (n : Int)) = false := decide_eq_false h1
      have e : (thr n p && t p.toNat) = false := by rw [thr, decide_eq_false (by omega), Bool.false_and]
      rw [e]
      clear e
      go_enter Try.func35, Try.ntmps35
      go_wp2
      go_ret
      exact ⟨rfl, rfl⟩
  · have hg : decide (p ≥ 0) = false := decide_eq_false h0
    have e : (thr n p && t p.toNat) = false := by rw [thr, decide_eq_false (by omega), Bool.false_and]
    rw [e]
    clear e
    go_enter Try.func35, Try.ntmps35
    go_wp2
    go_ret
    exact ⟨rfl, rfl⟩
set_option maxRecDepth 100000 in
set_option maxHeartbeats 1000000 in
theorem rplace_any (r rb n : Nat) (t : Nat → Bool) (B : Nat → Nat → Nat) (p off m : Int) (w : World) (h : Ref w r rb n t B) :
    Calls Try.prog 36 #[.pointer (some ⟨r, 0, none⟩), .int .i64 p, .int .i64 off, .int .i64 m] w fun e w' => e = .returned (.int .i64 (lookE n t p off m)) ∧ w' = w := by
  have H := hid h
  clear h
  obtain ⟨E, hE⟩ : ∃ E, E = lookE n t p off m := ⟨_, rfl⟩
  rw [← hE]
  have HE := hid hE
  clear hE
  cases hb : (thr n p && t p.toNat) with
  | false =>
    go_enter Try.func36, Try.ntmps36
    go_wp2_with (first | (go_at_call 35; refine (ris_any r rb n t B p _ H.out).mono ?_; rintro e w1 ⟨rfl, rfl⟩; rw [hb]))
    go_ret
    refine ⟨ret_int ?_, rfl⟩
    rw [HE.out, lookE, if_neg (fun h => by rw [h.1, h.2] at hb; cases hb)]
  | true =>
    have e1 : lookE n t p off m = if 0 ≤ off ∧ 0 ≤ m ∧ m ≤ 64 - off then 0 else 5 := by
      rw [Bool.and_eq_true] at hb
      rw [lookE, if_pos hb]
    rw [e1] at HE
    clear e1
    by_cases h0 : off < 0
    · have hd0 : decide (off < 0) = true := decide_eq_true h0
      go_enter Try.func36, Try.ntmps36
      go_wp2_with (first | (go_at_call 35; refine (ris_any r rb n t B p _ H.out).mono ?_; rintro e w1 ⟨rfl, rfl⟩; rw [hb]))
      go_ret
      exact ⟨ret_int (by rw [HE.out, if_neg (by omega)]), rfl⟩
    · have hd0 : decide (off < 0) = false := decide_eq_false h0
      by_cases h1 : m < 0
      · have hd1 : decide (m < 0) = true := decide_eq_true h1
        go_enter Try.func36, Try.ntmps36
        go_wp2_with (first | (go_at_call 35; refine (ris_any r rb n t B p _ H.out).mono ?_; rintro e w1 ⟨rfl, rfl⟩; rw [hb]))
        go_ret
        exact ⟨ret_int (by rw [HE.out, if_neg (by omega)]), rfl⟩
      · have hd1 : decide (m < 0) = false := decide_eq_false h1
        by_cases h3 : off > 64
        · have hd3 : decide (off > 64) = true := decide_eq_true h3
          go_enter Try.func36, Try.ntmps36
          go_wp2_with (first | (go_at_call 35; refine (ris_any r rb n t B p _ H.out).mono ?_; rintro e w1 ⟨rfl, rfl⟩; rw [hb]))
          go_ret
          exact ⟨ret_int (by rw [HE.out, if_neg (by omega)]), rfl⟩
        · have hd3 : decide (off > 64) = false := decide_eq_false h3
          have ew : IntKind.i64.wrap (64 - off) = 64 - off := by rw [IntKind.wrap_i64]; omega
          by_cases h2 : m > 64 - off
          · have hd2 : decide (m > 64 - off) = true := decide_eq_true h2
            go_enter Try.func36, Try.ntmps36
            go_wp2_with (first | (go_at_call 35; refine (ris_any r rb n t B p _ H.out).mono ?_; rintro e w1 ⟨rfl, rfl⟩; rw [hb]))
            go_ret
            exact ⟨ret_int (by rw [HE.out, if_neg (by omega)]), rfl⟩
          · have hd2 : decide (m > 64 - off) = false := decide_eq_false h2
            go_enter Try.func36, Try.ntmps36
            go_wp2_with (first | (go_at_call 35; refine (ris_any r rb n t B p _ H.out).mono ?_; rintro e w1 ⟨rfl, rfl⟩; rw [hb]))
            go_ret
            exact ⟨ret_int (by rw [HE.out, if_pos (by omega)]), rfl⟩
end Go.Proofs.Ytfcfacchppkmdaa
