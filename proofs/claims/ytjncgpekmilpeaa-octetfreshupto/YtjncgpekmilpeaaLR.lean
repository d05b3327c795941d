import Derived.Test.YtjncgpekmilpeaaE1
namespace Go.Proofs.Ytjncgpekmilpeaa
open Go.RowKit
set_option linter.unusedVariables false

set_option maxRecDepth 100000 in
set_option maxHeartbeats 4000000 in
theorem newReader2 (a : Option Addr) (n cap : Nat) (L : List Nat) (w : World) (h : Row w a n cap L) (hr : n ≤ 140737488355328) :
    Calls Try.prog 9 #[.slice a n cap] w fun e w' => ∃ g gb, e = .returned (.pointer (some ⟨g, 0, none⟩)) ∧ Rd w' g gb L ∧ w.heap.size ≤ g ∧ w.heap.size ≤ gb ∧ gb < w'.heap.size ∧ Below w.heap.size w w' := by
  have HR : Hid (n + 0 ≤ 140737488355328) := hr
  clear hr
  go_enter Try.func9, Try.ntmps9
  go_wp2_with (first | (go_at_call 37; refine (room_any a n cap 0 L _ h HR.out).mono ?_; rintro e w2 ⟨g, rfl, hown, hb⟩))
  go_ret
  have hg := own_block hown.row g rfl
  have hl := hown.lt g ⟨_, rfl, rfl⟩
  exact ⟨_, g, rfl, Rd.new hown rfl 82 rfl, hb.size, hg, by simp; omega, hb.alloc hb.size _⟩

/-- An empty list that is not nil. -/
theorem Own.empty (w : World) (g : Nat) (hg : g = w.heap.size) : Own (w.alloc (.cells #[] 5)) g (some ⟨g, 0, none⟩) 0 0 [] := by
  subst hg
  exact ⟨⟨rfl, .inr ⟨_, _, _, rfl, Nat.le_refl _, heap_alloc_new w _, Nat.le_refl _, by unfold maxLen; omega, rfl, rfl⟩⟩, fun _ h => (by cases h)⟩
/-- A copy behind an empty list that is not nil lies somewhere. -/
theorem append_empty {w : World} {b : Option Addr} {m c : Nat} {M : List Nat} (k : Row w b m c M) (hr : m ≤ 140737488355328) (bk : Nat) (hbk : bk = w.heap.size) :
    ∃ g' cap' w', (Builtin.append_ #[22, 22] 22 #[.slice (some ⟨bk, 0, none⟩) 0 0, .slice b m c]).run Try.prog (w.alloc (.cells #[] 5)) = .ok (.slice (some ⟨g', 0, none⟩) m cap') w' ∧ Own w' w.heap.size (some ⟨g', 0, none⟩) m cap' M ∧ Below w.heap.size w w' := by
  subst hbk
  have h0 := Own.empty w w.heap.size rfl
  obtain ⟨a', cap', w', h1, h2, h3⟩ := append_any h0 (k.alloc (.cells #[] 5)) (by simp) (by omega)
  rw [Nat.zero_add] at h1 h2
  have hb : Below w.heap.size w w' := (below1 _ _).trans (h3.below h0 (by simp))
  obtain ⟨g', rfl⟩ : ∃ g', a' = some ⟨g', 0, none⟩ := by
    rcases h2.row.2 with ⟨h, h'⟩ | ⟨g, c', cur, hv, _⟩
    · exfalso
      simp only [Value.slice.injEq] at h
      obtain ⟨rfl, rfl, rfl⟩ := h
      cases b with
      | none =>
        obtain ⟨i, hi, hz0, hz1, hz2⟩ := info_parts info5
        obtain ⟨_, rfl⟩ := k.none_ rfl
        have hr2 := run_append_owned_none (P := Try.prog) (w := w.alloc (.cells #[] 5)) w.heap.size 22 22 5 i 1 Try.underlying22 hi _ 0 _ h0.row
        rw [hr2] at h1
        simp at h1
      | some x =>
        obtain ⟨i, hi, hz0, hz1, hz2⟩ := info_parts info5
        obtain ⟨v', w'', hr2, _, _, h5, _⟩ := run_append_own_at (P := Try.prog) (w.alloc (.cells #[] 5)) w.heap.size 22 22 5 i _ 1 1 Try.underlying22 hi hz0 hz1 hz2 rfl (by decide) _ 0 _ h0.row x 0 c (u8s M) (by rw [u8s_length, k.len]) ((k.alloc (.cells #[] 5)).cells x rfl) (u8s_one M) (by unfold maxLen; omega) (by omega) (by simp)
        rw [hr2] at h1
        simp only [Result.ok.injEq] at h1
        obtain ⟨rfl, rfl⟩ := h1
        have := (h5.1 rfl).1
        simp at this
    · simp only [Value.slice.injEq] at hv
      exact ⟨g, hv.1⟩
  exact ⟨g', cap', w', h1, by simpa using h2, hb⟩

/-- The calls of a script, as they lie. -/
structure Ops (w : World) (x : Option Addr) (k cap : Nat) (f : Nat → Int × Int × Int) : Prop where
  cap_ : k ≤ cap
  most : ∀ i, (f i).2.2 < 9223372036854775808
  cells : 0 < k → ∃ b o, x = some ⟨b, o, none⟩ ∧ b < w.heap.size ∧ ∀ i, i < k → w.cell? ⟨b, o + i * 3, none⟩ = some (.int .i64 (f i).1) ∧ w.cell? ⟨b, o + i * 3 + 1, none⟩ = some (.int .i64 (f i).2.1) ∧ w.cell? ⟨b, o + i * 3 + 2, none⟩ = some (.int .i64 (f i).2.2)
theorem Lies.keep {w : World} {p q : Addr} {v u : Value} (h : Lies w p v) (hn : q ≠ p) : Lies (w.setCell q u) p v :=
  ⟨by rw [World.cell?_setCell_other _ _ _ _ hn]; exact h.1, by have := h.2; simpa using this⟩
theorem u8_set {w : World} {g n i : Nat} {y : Int} (h : ∀ j, j < n → ∃ x : Int, Lies w ⟨g, j, none⟩ (.int .u8 x)) : ∀ j, j < n → ∃ x : Int, Lies (w.setCell ⟨g, i, none⟩ (.int .u8 y)) ⟨g, j, none⟩ (.int .u8 x) := by
  intro j hj
  obtain ⟨x, hx⟩ := h j hj
  by_cases e : j = i
  · subst e; exact ⟨y, hx.put⟩
  · exact ⟨x, hx.keep (fun e' => e (by simpa using congrArg Addr.off e'.symm))⟩
theorem Lent.lies {w : World} {base g n cap : Nat} {L : List Nat} (h : Lent w base g n cap L) : ∀ j, j < n → ∃ x : Int, Lies w ⟨g, j, none⟩ (.int .u8 x) := by
  intro j hj
  have hl := h.len
  have hr := h.row
  have hc := hr.cells _ rfl j _ (u8s_get L j (by omega))
  rw [addr_add0] at hc
  refine ⟨_, hc, ?_⟩
  rcases h.own.row.2 with ⟨h, _⟩ | ⟨g', c, cur, hv, _, hh, _⟩
  · simp at h
  · simp only [Value.slice.injEq, Option.some.injEq, Addr.mk.injEq] at hv
    obtain ⟨⟨rfl, _⟩, _⟩ := hv
    simp [World.frozen?, hh]
def ReadRel (w : World) (k gr br gp bp gs bs gq bq : Nat) (t : Value) (w' : World) : Prop := ∃ (i : Nat) (R S : List Nat), i ≤ k ∧ t = .int .i64 (i : Int) ∧ Rd w' gr br R ∧ Rd w' gp bp R ∧ Rd w' gs bs S ∧ Rd w' gq bq S ∧ R.length ≤ 140737488355328 ∧ S.length ≤ 140737488355328 ∧ Below w.heap.size w w'
theorem Rd.drewN {w : World} {g gb : Nat} {R : List Nat} (h : Rd w g gb R) (k : Nat) : Rd (w.drewN k) g gb R := h.later (below_drewN (Below.refl _ _) k)
def XorRel (W : World) (g n : Nat) (t : Value) (w' : World) : Prop := ∃ i : Nat, i ≤ n ∧ t = .int .i64 (i : Int) ∧ (∀ j, j < n → ∃ x : Int, Lies w' ⟨g, j, none⟩ (.int .u8 x)) ∧ But (· = g) W w'

set_option maxRecDepth 100000 in
set_option maxHeartbeats 4000000 in
theorem reads_walk (a b x : Option Addr) (n m k ca cb cx : Nat) (A B : List Nat) (f : Nat → Int × Int × Int) (w : World) (h : Row w a n ca A) (h2 : Row w b m cb B) (ho : Ops w x k cx f) (hn : n + 300 ≤ 140737488355328) (hm : m + 300 ≤ 140737488355328) (hk : k ≤ 9223372036854775807) :
    Calls Try.prog 6 #[.slice a n ca, .slice b m cb, .slice x k cx] w fun e w' => e = .returned (.bool true) ∧ Below w.heap.size w w' := by
  have hb0 : Below w.heap.size w w := Below.refl _ _
  have hAl := h.len
  have hBl := h2.len
  have R0 := h
  have R1 := h2
  have HN : Hid (n + 300 ≤ 140737488355328 ∧ m + 300 ≤ 140737488355328 ∧ k ≤ 9223372036854775807) := ⟨hn, hm, hk⟩
  have HO : Hid (Ops w x k cx f) := ho
  clear h h2 hn hm hk ho
  go_enter Try.func6, Try.ntmps6
  go_upto_region 3 with (first | (go_at_call 7; refine (head_any _).mono ?_; rintro e w1 ⟨rfl, hb⟩; replace hb0 := below_call hb0 hb; replace R0 := R0.later hb; replace R1 := R1.later hb; have hw10 := hb0.size; clear hb))
  go_upto_region 4 with (first | (go_at_call 8; have hq_ := K1; clear hq_; refine (lent_any b m cb B _ R1 HN.out.2.1).mono ?_; rintro e w3 ⟨g2, c2, rfl, K2, hb⟩; replace hb0 := below_call hb0 hb; replace R0 := R0.later hb; replace R1 := R1.later hb; replace K1 := K1.later hb; have hw3 := hb.size; clear hb) | (go_at_call 8; refine (lent_any a n ca A _ R0 HN.out.1).mono ?_; rintro e w2 ⟨g1, c1, rfl, K1, hb⟩; replace hb0 := below_call hb0 hb; replace R0 := R0.later hb; replace R1 := R1.later hb; have hw2 := hb0.size; have hg1 := K1.own.blk g1 ⟨_, rfl, rfl⟩; have hg1l := K1.own.lt g1 ⟨_, rfl, rfl⟩; clear hb))
  have KR1 := K1.row
  have KR2 := K2.row
  go_upto_region 5 with (first | (go_at_call 9; have hq_ := rr; clear hq_; refine (newReader2 _ _ _ B _ KR2 (by have := HN.out.2.1; omega)).mono ?_; rintro e w5 ⟨gs, bs, rfl, rs, hgs, hbs, hbsl, hb⟩; replace hb0 := below_call hb0 hb; replace R0 := R0.later hb; replace R1 := R1.later hb; replace K1 := K1.later hb; replace K2 := K2.later hb; replace KR1 := KR1.later hb; replace KR2 := KR2.later hb; replace rr := rr.later hb; have hw5 := hb.size; have hgsl := rs.lt; clear hb) | (go_at_call 9; refine (newReader2 _ _ _ A _ KR1 (by have := HN.out.1; omega)).mono ?_; rintro e w4 ⟨gr, br, rfl, rr, hgr, hbr, hbrl, hb⟩; replace hb0 := below_call hb0 hb; replace R0 := R0.later hb; replace R1 := R1.later hb; replace K1 := K1.later hb; replace K2 := K2.later hb; replace KR1 := KR1.later hb; replace KR2 := KR2.later hb; have hw4 := hb.size; have hgrl := rr.lt; clear hb))
  obtain ⟨bp, cp, w6, hrun6, O6, hb6⟩ := append_empty R0 (by have := HN.out.1; omega) _ rfl
  have HRUN6 : Hid _ := hrun6
  have hw6 := hb6.size
  have hbp := O6.blk bp ⟨_, rfl, rfl⟩
  have hbpl := O6.lt bp ⟨_, rfl, rfl⟩
  replace hb0 := below_call hb0 hb6
  replace R0 := R0.later hb6
  replace R1 := R1.later hb6
  replace K1 := K1.later hb6
  replace K2 := K2.later hb6
  replace KR1 := KR1.later hb6
  replace KR2 := KR2.later hb6
  replace rr := rr.later hb6
  replace rs := rs.later hb6
  clear hrun6 hb6
  obtain ⟨bq, cq, w7, hrun7, O7, hb7⟩ := append_empty (R1.alloc (.cells #[.slice (some ⟨bp, 0, none⟩) n cp] 73)) (by have := HN.out.2.1; omega) (w6.heap.size + 1) (by simp)
  have HRUN7 : Hid _ := hrun7
  have hw7 := hb7.size
  have hbq := O7.blk bq ⟨_, rfl, rfl⟩
  have hbql := O7.lt bq ⟨_, rfl, rfl⟩
  have rp := Rd.new O6 rfl 73 rfl
  replace hb0 := below_call (hb0.alloc hb0.size (.cells #[.slice (some ⟨bp, 0, none⟩) n cp] 73)) hb7
  replace rp := rp.later hb7
  replace R0 := (R0.alloc (.cells #[.slice (some ⟨bp, 0, none⟩) n cp] 73)).later hb7
  replace R1 := (R1.alloc (.cells #[.slice (some ⟨bp, 0, none⟩) n cp] 73)).later hb7
  replace K1 := (K1.alloc (.cells #[.slice (some ⟨bp, 0, none⟩) n cp] 73)).later hb7
  replace K2 := (K2.alloc (.cells #[.slice (some ⟨bp, 0, none⟩) n cp] 73)).later hb7
  replace KR1 := (KR1.alloc (.cells #[.slice (some ⟨bp, 0, none⟩) n cp] 73)).later hb7
  replace KR2 := (KR2.alloc (.cells #[.slice (some ⟨bp, 0, none⟩) n cp] 73)).later hb7
  replace rr := (rr.alloc (.cells #[.slice (some ⟨bp, 0, none⟩) n cp] 73)).later hb7
  replace rs := (rs.alloc (.cells #[.slice (some ⟨bp, 0, none⟩) n cp] 73)).later hb7
  have rq := Rd.new O7 rfl 73 rfl
  replace hb0 := hb0.alloc hb0.size (.cells #[.slice (some ⟨bq, 0, none⟩) m cq] 73)
  replace R0 := R0.alloc (.cells #[.slice (some ⟨bq, 0, none⟩) m cq] 73)
  replace R1 := R1.alloc (.cells #[.slice (some ⟨bq, 0, none⟩) m cq] 73)
  replace K1 := K1.alloc (.cells #[.slice (some ⟨bq, 0, none⟩) m cq] 73)
  replace K2 := K2.alloc (.cells #[.slice (some ⟨bq, 0, none⟩) m cq] 73)
  replace KR1 := KR1.alloc (.cells #[.slice (some ⟨bq, 0, none⟩) m cq] 73)
  replace KR2 := KR2.alloc (.cells #[.slice (some ⟨bq, 0, none⟩) m cq] 73)
  replace rr := rr.alloc (.cells #[.slice (some ⟨bq, 0, none⟩) m cq] 73)
  replace rs := rs.alloc (.cells #[.slice (some ⟨bq, 0, none⟩) m cq] 73)
  replace rp := rp.alloc (.cells #[.slice (some ⟨bq, 0, none⟩) m cq] 73)
  clear hrun7 hb7 O6 O7
  have hsz7 : (w6.alloc (.cells #[.slice (some ⟨bp, 0, none⟩) n cp] 73)).heap.size = w6.heap.size + 1 := by simp
  rw [hsz7] at hw7 hbq
  go_upto_region 6 with (first | (at_builtin; have hq_ := mk1; clear hq_; refine wpList_append_known rfl _ _ 22 rfl _ _ rfl rfl _ w7 HRUN7.out ?_) | (at_builtin; refine wpList_append_known rfl _ _ 22 rfl _ _ rfl rfl _ w6 HRUN6.out ?_; obtain ⟨mk1, _⟩ : ∃ m : Nat, m = 0 := ⟨0, rfl⟩))
  go_upto_region 8 with (first | (go_at_call 19; have hq_ := mk2; clear hq_; refine (kept_any g2 m c2 _ _ _ _ B _ K2 R1 HN.out.2.1).mono ?_; rintro e ws ⟨rfl, rfl⟩) | (go_at_call 19; refine (kept_any g1 n c1 _ _ _ _ A _ K1 R0 HN.out.1).mono ?_; rintro e ws ⟨rfl, rfl⟩; obtain ⟨mk2, _⟩ : ∃ m : Nat, m = 0 := ⟨0, rfl⟩))
  have LX := K1.lies
  clear K1 K2 KR1 KR2 HRUN6 HRUN7 hsz7 R0 R1
  have hgp0 : w6.heap.size < w7.heap.size := by omega
  generalize hWe : w7.alloc (Obj.cells #[.slice (some ⟨bq, 0, none⟩) m cq] 73) = W at *
  generalize hgq : w7.heap.size = gq at *
  generalize hgp : w6.heap.size = gp at *
  have HD : Hid ((gr ≠ g1 ∧ br ≠ g1 ∧ gs ≠ g1 ∧ bs ≠ g1 ∧ gp ≠ g1 ∧ bp ≠ g1 ∧ gq ≠ g1 ∧ bq ≠ g1) ∧ (gp ≠ gr ∧ bp ≠ gr ∧ br ≠ gp) ∧ (gq ≠ gs ∧ bq ≠ gs ∧ bs ≠ gq) ∧ (gs ≠ gr ∧ gs ≠ gp ∧ bs ≠ gr ∧ bs ≠ gp ∧ gq ≠ gr ∧ gq ≠ gp ∧ bq ≠ gr ∧ bq ≠ gp ∧ br ≠ gs ∧ br ≠ gq ∧ bp ≠ gs ∧ bp ≠ gq) ∧ (w.heap.size ≤ g1 ∧ w.heap.size ≤ gr ∧ w.heap.size ≤ gp ∧ w.heap.size ≤ gs ∧ w.heap.size ≤ gq)) := by
    refine ⟨⟨?_, ?_, ?_, ?_, ?_, ?_, ?_, ?_⟩, ⟨?_, ?_, ?_⟩, ⟨?_, ?_, ?_⟩, ⟨?_, ?_, ?_, ?_, ?_, ?_, ?_, ?_, ?_, ?_, ?_, ?_⟩, ⟨?_, ?_, ?_, ?_, ?_⟩⟩ <;> omega
  have HS : Hid (Rd W gr br A ∧ Rd W gp bp A ∧ Rd W gs bs B ∧ Rd W gq bq B ∧ Below w.heap.size w W) := ⟨rr, rp, rs, rq, hb0⟩
  have HLX : Hid (∀ j, j < n → ∃ x : Int, Lies W ⟨g1, j, none⟩ (.int .u8 x)) := LX
  have HNl : Hid (A.length = n ∧ B.length = m) := ⟨hAl, hBl⟩
  clear rr rp rs rq hb0 LX hw2 hg1 hg1l hw3 hgr hbr hbrl hw4 hgrl hgs hbs hbsl hw5 hgsl hw6 hbp hbpl hw7 hbq hbql hgp0 hAl hBl hw10
  go_wp2
  go_loopw [13] (XorRel W g1 n) (fun t _ => n - (intOf t).toNat)
  case atStart => exact ⟨0, by omega, rfl, HLX.out, But.refl _ _⟩
  case round =>
    clear HLX
    obtain ⟨i, hi, rfl, hlx, hbut⟩ := hrel
    by_cases hlt : i < n
    · have hd : decide ((i : Int) < (n : Int)) = true := by simp; omega
      obtain ⟨xv, hxv⟩ := hlx i hlt
      have x0 := hxv.1
      have x1 := hxv.2
      have ei : IntKind.i64.wrap ((i : Int) + 1) = (i : Int) + 1 := by have := HN.out.1; rw [IntKind.wrap_i64]; omega
      have HL2 : Hid (∀ y : Int, ∀ j, j < n → ∃ x : Int, Lies (wr.setCell ⟨g1, i, none⟩ (.int .u8 y)) ⟨g1, j, none⟩ (.int .u8 x)) := fun y => u8_set hlx
      have HB2 : Hid (∀ y : Value, But (· = g1) W (wr.setCell ⟨g1, i, none⟩ y)) := fun y => hbut.setCell (p := ⟨g1, i, none⟩) rfl y
      clear hlx hbut hxv
      go_wp2
      go_roundw
      case rel => exact ⟨i + 1, by omega, by simp, HL2.out _, HB2.out _⟩
      case measure => simp [intOf]; omega
    · obtain rfl : i = n := by omega
      clear hlx
      go_wp2
      have HT : Hid (ReadRel w k gr br gp bp gs bs gq bq (.int .i64 0) wr) := by
        obtain ⟨h1, h2, h3, h4, h5⟩ := HS.out
        obtain ⟨⟨d1, d2, d3, d4, d5, d6, d7, d8⟩, -, -, -, e1, -⟩ := HD.out
        have hl := HNl.out
        have hn := HN.out
        exact ⟨0, A, B, by omega, rfl, h1.but hbut d1 d2, h2.but hbut d5 d6, h3.but hbut d3 d4, h4.but hbut d7 d8, by omega, by omega, But.below h5 hbut (fun b hb => by omega)⟩
      clear HS hbut HNl
      rename World => wr0
      go_loopw [14] (ReadRel w k gr br gp bp gs bs gq bq) (fun t _ => k - (intOf t).toNat)
      case atStart => exact HT.out
      case round =>
        clear HT
        obtain ⟨i2, R, S, hi2, rfl, r, p, s, q, hR, hS, hB⟩ := hrel
        by_cases hlt2 : i2 < k
        · have hd : decide ((i2 : Int) < (k : Int)) = true := by simp; omega
          obtain ⟨bx, ox, rfl, hbx, hcx⟩ := HO.out.cells (by omega)
          obtain ⟨c0, c1, c2⟩ := hcx i2 hlt2
          have hmost := HO.out.most i2
          obtain ⟨kd, nn, mm, hf⟩ : ∃ kd nn mm, f i2 = (kd, nn, mm) := ⟨_, _, _, rfl⟩
          rw [hf] at c0 c1 c2 hmost
          simp only at c0 c1 c2 hmost
          have HC : Hid (∀ u : World, Below w.heap.size w u → u.cell? ⟨bx, ox + i2 * 3, none⟩ = some (.int .i64 kd) ∧ u.cell? ⟨bx, ox + i2 * 3 + 1, none⟩ = some (.int .i64 nn) ∧ u.cell? ⟨bx, ox + i2 * 3 + 2, none⟩ = some (.int .i64 mm)) := fun u hu => ⟨by rw [hu.cell hbx]; exact c0, by rw [hu.cell hbx]; exact c1, by rw [hu.cell hbx]; exact c2⟩
          clear c0 c1 c2 hcx hf
          obtain ⟨c0, c1, c2⟩ := HC.out _ hB
          have hcapx := HO.out.cap_
          have hci : (i2 : Int) < (k : Int) := by omega
          have ei : IntKind.i64.wrap ((i2 : Int) + 1) = (i2 : Int) + 1 := by have := HN.out.2.2; rw [IntKind.wrap_i64]; omega
          have HL : Hid (R.length ≤ 140737488355328 ∧ S.length ≤ 140737488355328) := ⟨hR, hS⟩
          have HM : Hid (mm < 9223372036854775808) := hmost
          clear hR hS hmost
          go_upto_region 16 with (first | (go_at_call 34; refine (step_any gr br gp bp R kd nn mm _ r p HD.out.2.1.1 HD.out.2.1.2.1 HD.out.2.1.2.2 HM.out HL.out.1).mono ?_; rintro e w8 ⟨rfl, ⟨R', r', p', hRR⟩, hbut⟩))
          have hS5 := HD.out.2.2.2.2
          have hS4 := HD.out.2.2.2.1
          replace s := s.but hbut (by omega) (by omega)
          replace q := q.but hbut (by omega) (by omega)
          replace hB := But.below hB hbut (fun b hb => by omega)
          have hR2 : R'.length ≤ 140737488355328 := Nat.le_trans hRR HL.out.1
          clear r p hbut c0 c1 c2 hRR hS4 hS5
          obtain ⟨c0, c1, c2⟩ := HC.out _ hB
          have HR2 : Hid (R'.length ≤ 140737488355328) := hR2
          clear hR2
          by_cases hpar : i2 % 2 = 0
          · have hp1 : (i2 : Int) % 2 = 0 := by omega
            have hp2 : (i2 : Int).tmod 2 = 0 := by rw [Int.tmod_eq_emod_of_nonneg (by omega)]; exact hp1
            go_upto_region 20 with (first | (go_at_call 34; refine (step_any gs bs gq bq S kd nn mm _ s q HD.out.2.2.1.1 HD.out.2.2.1.2.1 HD.out.2.2.1.2.2 HM.out HL.out.2).mono ?_; rintro e w9 ⟨rfl, ⟨S', s', q', hSS⟩, hbut⟩))
            have hS5 := HD.out.2.2.2.2
            have hS4 := HD.out.2.2.2.1
            replace r' := r'.but hbut (by omega) (by omega)
            replace p' := p'.but hbut (by omega) (by omega)
            replace hB := But.below hB hbut (fun b hb => by omega)
            have HS2 : Hid (S'.length ≤ 140737488355328) := Nat.le_trans hSS HL.out.2
            clear s q hbut c0 c1 c2 hSS hS4 hS5
            obtain ⟨o1, k1, l1, -, -⟩ := p'.ex
            obtain ⟨o2, k2, l2, -, -⟩ := q'.ex
            have y1 := l1.1
            have y2 := l2.1
            have HQ : Hid (∀ t, Rd (w9.drewN t) gr br R' ∧ Rd (w9.drewN t) gp bp R' ∧ Rd (w9.drewN t) gs bs S' ∧ Rd (w9.drewN t) gq bq S') := fun t => ⟨r'.drewN t, p'.drewN t, s'.drewN t, q'.drewN t⟩
            go_quiet (first | (go_at_call_of 24 (Value.pointer (some ⟨gr, 0, none⟩)); refine Calls.quiet_of_same (left_any gr br R' _ (HQ.out _).1)) | (go_at_call_of 24 (Value.pointer (some ⟨gs, 0, none⟩)); refine Calls.quiet_of_same (left_any gs bs S' _ (HQ.out _).2.2.1)) | (go_at_call_of 26 (Value.pointer (some ⟨gr, 0, none⟩)); refine Calls.quiet_of_same (end_any gr br R' _ (HQ.out _).1)) | (go_at_call_of 26 (Value.pointer (some ⟨gs, 0, none⟩)); refine Calls.quiet_of_same (end_any gs bs S' _ (HQ.out _).2.2.1)) | (go_at_call_of 35 (Value.pointer (some ⟨gp, 0, none⟩)); refine Calls.quiet_of_same (rend_any gp bp R' _ (HQ.out _).2.1)) | (go_at_call_of 35 (Value.pointer (some ⟨gq, 0, none⟩)); refine Calls.quiet_of_same (rend_any gq bq S' _ (HQ.out _).2.2.2)))
            have HBn : Hid (∀ t, Below w.heap.size w (w9.drewN t)) := fun t => below_drewN hB t
            clear r' p' s' q' y1 y2 l1 l2 hB
            go_wp2
            go_roundw
            case rel => exact ⟨i2 + 1, R', S', by omega, by simp, (HQ.out _).1, (HQ.out _).2.1, (HQ.out _).2.2.1, (HQ.out _).2.2.2, HR2.out, HS2.out, HBn.out _⟩
            case measure => simp [intOf]; omega
          · have hp1 : (i2 : Int) % 2 = 1 := by omega
            have hp2 : (i2 : Int).tmod 2 = 1 := by rw [Int.tmod_eq_emod_of_nonneg (by omega)]; exact hp1
            go_upto_region 20 with fail
            clear c0 c1 c2
            obtain ⟨o1, k1, l1, -, -⟩ := p'.ex
            obtain ⟨o2, k2, l2, -, -⟩ := q.ex
            have y1 := l1.1
            have y2 := l2.1
            have HQ : Hid (∀ t, Rd (w8.drewN t) gr br R' ∧ Rd (w8.drewN t) gp bp R' ∧ Rd (w8.drewN t) gs bs S ∧ Rd (w8.drewN t) gq bq S) := fun t => ⟨r'.drewN t, p'.drewN t, s.drewN t, q.drewN t⟩
            go_quiet (first | (go_at_call_of 24 (Value.pointer (some ⟨gr, 0, none⟩)); refine Calls.quiet_of_same (left_any gr br R' _ (HQ.out _).1)) | (go_at_call_of 24 (Value.pointer (some ⟨gs, 0, none⟩)); refine Calls.quiet_of_same (left_any gs bs S _ (HQ.out _).2.2.1)) | (go_at_call_of 26 (Value.pointer (some ⟨gr, 0, none⟩)); refine Calls.quiet_of_same (end_any gr br R' _ (HQ.out _).1)) | (go_at_call_of 26 (Value.pointer (some ⟨gs, 0, none⟩)); refine Calls.quiet_of_same (end_any gs bs S _ (HQ.out _).2.2.1)) | (go_at_call_of 35 (Value.pointer (some ⟨gp, 0, none⟩)); refine Calls.quiet_of_same (rend_any gp bp R' _ (HQ.out _).2.1)) | (go_at_call_of 35 (Value.pointer (some ⟨gq, 0, none⟩)); refine Calls.quiet_of_same (rend_any gq bq S _ (HQ.out _).2.2.2)))
            have HBn : Hid (∀ t, Below w.heap.size w (w8.drewN t)) := fun t => below_drewN hB t
            clear r' p' s q y1 y2 l1 l2 hB
            go_wp2
            go_roundw
            case rel => exact ⟨i2 + 1, R', S, by omega, by simp, (HQ.out _).1, (HQ.out _).2.1, (HQ.out _).2.2.1, (HQ.out _).2.2.2, HR2.out, HL.out.2, HBn.out _⟩
            case measure => simp [intOf]; omega
        · obtain rfl : i2 = k := by omega
          clear r p s q
          go_wp2
          go_ret
          exact ⟨rfl, hB⟩
end Go.Proofs.Ytjncgpekmilpeaa
