import Derived.Test.YtdkadmnhfnilkaaS1
import Derived.Test.YtdkadmnhfnilkaaA4
import Derived.Test.YtdkadmnhfnilkaaTAD
import Derived.Test.YtdkadmnhfnilkaaKN
namespace Go.Proofs.Ytdkadmnhfnilkaa
open Go.RowKit
set_option linter.unusedVariables false

theorem d_len {w : World} {g gb kn mo N : Nat} {E : List (Cp × (Int × Int))} (h : D.Tb w g gb kn mo N E) : Calls Try.prog 13 #[.pointer (some ⟨g, 0, none⟩)] w fun e w' => e = .returned (.int .i64 (E.length : Int)) ∧ w' = w := by
  obtain ⟨L, sp, h⟩ := h
  exact D.len_any h.tm
/-- A pair of numbers in a block of its own. -/
structure Vb (w : World) (b : Nat) (x y : Int) : Prop where
  c0 : w.cell? ⟨b, 0, none⟩ = some (.int .i64 x)
  c1 : w.cell? ⟨b, 1, none⟩ = some (.int .i64 y)
theorem Vb.but {S : Nat → Prop} {w w' : World} {b : Nat} {x y : Int} (hb : But S w w') (h : Vb w b x y) (hn : ¬ S b) : Vb w' b x y := ⟨cell_but hb h.c0 hn, cell_but hb h.c1 hn⟩
theorem Vb.later {w w' : World} {b : Nat} {x y : Int} (hb : Below w.heap.size w w') (h : Vb w b x y) : Vb w' b x y := h.but (S := fun _ => False) (But.of hb) (fun h => h)
theorem vb1 (w : World) (x y : Int) : Vb (w.alloc (Obj.cells #[.int .i64 x, .int .i64 y] 28)) w.heap.size x y := ⟨by simp [go_sem], by simp [go_sem]⟩
theorem vb0 (w : World) (o : Obj) (x y : Int) : Vb ((w.alloc o).alloc (Obj.cells #[.int .i64 x, .int .i64 y] 28)) (w.heap.size + 1) x y := ⟨by simp [go_sem], by simp [go_sem]⟩
/-- The two tables. -/
structure Two (w : World) (g gb k1 N1 h hb k2 N2 mo : Nat) (E : List (Cp × (Int × Int))) : Prop where
  a : D.Tb w g gb k1 mo N1 E
  b : D.Tb w h hb k2 mo N2 E
theorem Two.later {w w' : World} {g gb k1 N1 h hb k2 N2 mo : Nat} {E : List (Cp × (Int × Int))} (bl : Below w.heap.size w w') (t : Two w g gb k1 N1 h hb k2 N2 mo E) : Two w' g gb k1 N1 h hb k2 N2 mo E := ⟨t.a.later bl, t.b.later bl⟩
def KnobRel (w : World) (g gb k1 N1 h hb k2 N2 mo n : Nat) (t : Value) (w' : World) : Prop :=
  ∃ (i : Nat) (E : List (Cp × (Int × Int))), i ≤ n ∧ t = .int .i64 (i : Int) ∧ Two w' g gb k1 N1 h hb k2 N2 mo E ∧ Below w.heap.size w w'

set_option maxRecDepth 100000 in
set_option maxHeartbeats 20000000 in
theorem knobs_law (x0 x1 x2 : Int) (a : Option Addr) (n cap : Nat) (f : Nat → Sp) (w : World) (hsc : Ss w a n f) (hn : n ≤ 9223372036854775807) :
    Calls Try.prog 3 #[.int .i64 x0, .int .i64 x1, .int .i64 x2, .slice a n cap] w fun e w' => e = .returned (.bool true) ∧ Below w.heap.size w w' := by
  have HSC := hid hsc
  clear hsc
  go_enter Try.func3, Try.ntmps3
  go_upto_region 2 with (first | (go_at_call 7; refine (into_any _ 256 _ (by omega) (by omega)).mono ?_; rintro e w1 ⟨⟨r, hr, rfl⟩, hw⟩; obtain rfl := hw.symm; obtain ⟨mo, hmo, hm1, hm2⟩ : ∃ mo : Nat, (1 : Int) + (r : Int) = (mo : Int) ∧ 1 ≤ mo ∧ mo ≤ 256 := ⟨1 + r, by omega, by omega, by omega⟩))
  clear hmo hr hw
  go_upto_region 3 with (first | (go_at_call 8; refine (D.new_ok _ mo k1 (by omega) (by omega) (by omega)).mono ?_; rintro e w4 ⟨g, gb, N1, rfl, T4, hg, hgb, hb4⟩; have HT4 := hid T4; have HB4 := hid hb4; clear T4 hb4) | (go_at_call 7; refine (into_any _ 65 _ (by omega) (by omega)).mono ?_; rintro e w3 ⟨⟨k1, hk1, rfl⟩, hw⟩; obtain rfl := hw.symm; clear hw))
  go_upto_region 4 with (first | (go_at_call 8; refine (D.new_ok _ mo k2 (by omega) (by omega) (by omega)).mono ?_; rintro e w6 ⟨h, hb, N2, rfl, T6, hh, hhb, hb6⟩; have HT6 := hid T6; have HB6 := hid hb6; clear T6 hb6) | (go_at_call 7; refine (into_any _ 65 _ (by omega) (by omega)).mono ?_; rintro e w5 ⟨⟨k2, hk2, rfl⟩, hw⟩; obtain rfl := hw.symm; clear hw))
  have hgl := HT4.out.lt
  have hgl2 := HT4.out.lt2
  have hsz := HB4.out.size
  have hsz6 := HB6.out.size
  have hd1 : Hid (∀ k, D.In g gb k → ¬ D.In h hb k) := by
    rintro k (rfl | rfl) (e | e) <;> omega
  have hd2 : Hid (∀ k, D.In h hb k → ¬ D.In g gb k) := fun k h1 h2 => hd1.out k h2 h1
  have hin : Hid (∀ k, D.In g gb k → w.heap.size ≤ k) := by
    rintro k (rfl | rfl) <;> omega
  have hin2 : Hid (∀ k, D.In h hb k → w.heap.size ≤ k) := by
    rintro k (rfl | rfl) <;> omega
  have HS6 : Hid (Two w6 g gb k1 N1 h hb k2 N2 mo []) := hid ⟨HT4.out.later HB6.out, HT6.out⟩
  have HBB := hid (below_call HB4.out HB6.out)
  clear HT4 HT6 HB4 HB6 hgl hgl2 hsz hsz6
  go_upto_region 6 with (first | (go_at_call 9; refine (known_any _).mono ?_; rintro e w7 ⟨rfl, hb7⟩; have HS7 := hid (HS6.out.later hb7); have HB7 := hid (below_call HBB.out hb7); clear hb7))
  clear HS6 HBB
  go_upto_region 7 with fail
  go_loopw [13] (KnobRel w g gb k1 N1 h hb k2 N2 mo n) (fun t _ => n - (intOf t).toNat)
  case atStart => exact ⟨0, [], Nat.zero_le _, rfl, HS7.out, HB7.out⟩
  case round =>
    obtain ⟨i, E, hi, rfl, hS, hB⟩ := hrel
    have HS := hid hS
    have HB := hid hB
    clear hS hB
    by_cases hlt : i < n
    · have hsc := HSC.out.later HB.out
      obtain ⟨b, o, rfl, hcs⟩ := hsc.at_ (by omega)
      obtain ⟨c0, c1, c2, c3, c4, c5⟩ := hcs i hlt
      have hok := hsc.ok i hlt
      clear hsc hcs
      generalize f i = s at c0 c1 c2 c3 c4 c5 hok
      obtain ⟨sec, kd, ⟨co, ch, cl⟩, v⟩ := s
      simp only at c0 c1 c2 c3 c4 c5 hok
      obtain ⟨hok1, hok2⟩ := hok
      have hrl := HS.out.a.lt
      have hrl2 := HS.out.a.lt2
      have hrl3 := HS.out.b.lt
      have hrl4 := HS.out.b.lt2
      have hni : Hid (¬ D.In g gb wr.heap.size) := by rintro (h3 | h3) <;> omega
      have hni2 : Hid (¬ D.In g gb (wr.heap.size + 1)) := by rintro (h3 | h3) <;> omega
      have hnj : Hid (¬ D.In h hb wr.heap.size) := by rintro (h3 | h3) <;> omega
      have hga : Hid (¬ D.In h hb g) := fun e => hd2.out g e (.inl rfl)
      have hgb : Hid (¬ D.In h hb gb) := fun e => hd2.out gb e (.inr rfl)
      have hha : Hid (¬ D.In g gb h) := fun e => hd1.out h e (.inl rfl)
      have hhb : Hid (¬ D.In g gb hb) := fun e => hd1.out hb e (.inr rfl)
      clear hrl hrl2 hrl3 hrl4
      have SB := hid (Sb.new wr ⟨sec, kd, (co, ch, cl), v⟩)
      by_cases hk0 : kd = 0
      · subst hk0
        have VB := hid (vb0 wr (Obj.cells #[.bool sec, .int .i64 0, .int .i64 co, .int .u64 (ch : Int), .int .u64 (cl : Int), .int .i64 v] 36) v (i : Int))
        rcases there_or E (co, ch, cl) with ⟨u, hu⟩ | hno
        · have HC := hid (key_mem hu)
          clear hu
          go_upto_region 18 with (first | (go_at_call 10; refine (D.put_there (HS.out.a.later (below2 _ _ _)) co ch cl (v, (i : Int)) hok1 hok2 HC.out).mono ?_; rintro e w8 ⟨rfl, hb8⟩; have HS8 := hid ((HS.out.later (below2 _ _ _)).later hb8); have HB8 := hid (below_call (below_call HB.out (below2 _ _ _)) hb8); have SB8 := hid ((SB.out.later (below1 _ _)).later hb8); have VB8 := hid (VB.out.later hb8); clear hb8))
          obtain ⟨x2, x3, x4⟩ := (⟨SB8.out.c2, SB8.out.c3, SB8.out.c4⟩ : _ ∧ _ ∧ _)
          simp only [Nat.zero_add] at x2 x3 x4
          obtain ⟨y0, y1⟩ := (⟨VB8.out.c0, VB8.out.c1⟩ : _ ∧ _)
          go_upto_region 19 with (first | (go_at_call 10; refine (D.put_there HS8.out.b co ch cl (v, (i : Int)) hok1 hok2 HC.out).mono ?_; rintro e w9 ⟨rfl, hb9⟩; have TT := hid (HS8.out.later hb9); have BB := hid (below_call HB8.out hb9); clear hb9))
          clear x2 x3 x4 y0 y1
          have hEm : Hid (E.length ≤ mo) := TT.out.a.most
          have hEmi : ¬ (mo : Int) < (E.length : Int) := by have := hEm.out; omega
          go_wp2_with (first | (go_at_call 13; refine (d_len TT.out.a).mono ?_; rintro e w20 ⟨rfl, hw⟩; obtain rfl := hw.symm; clear hw) | (go_at_call 13; refine (d_len TT.out.b).mono ?_; rintro e w21 ⟨rfl, hw⟩; obtain rfl := hw.symm; clear hw))
          exact ⟨⟨i + 1, E, by omega, by go_num, TT.out, BB.out⟩, by simp [intOf]; omega⟩
        · have HC := hid hno
          clear hno
          by_cases hfu : E.length = mo
          · have HFU := hid hfu
            clear hfu
            go_upto_region 18 with (first | (go_at_call 10; refine (D.put_full (HS.out.a.later (below2 _ _ _)) co ch cl (v, (i : Int)) hok1 hok2 HC.out HFU.out).mono ?_; rintro e w8 ⟨rfl, hb8⟩; have HS8 := hid ((HS.out.later (below2 _ _ _)).later hb8); have HB8 := hid (below_call (below_call HB.out (below2 _ _ _)) hb8); have SB8 := hid ((SB.out.later (below1 _ _)).later hb8); have VB8 := hid (VB.out.later hb8); clear hb8))
            obtain ⟨x2, x3, x4⟩ := (⟨SB8.out.c2, SB8.out.c3, SB8.out.c4⟩ : _ ∧ _ ∧ _)
            simp only [Nat.zero_add] at x2 x3 x4
            obtain ⟨y0, y1⟩ := (⟨VB8.out.c0, VB8.out.c1⟩ : _ ∧ _)
            go_upto_region 19 with (first | (go_at_call 10; refine (D.put_full HS8.out.b co ch cl (v, (i : Int)) hok1 hok2 HC.out HFU.out).mono ?_; rintro e w9 ⟨rfl, hb9⟩; have TT := hid (HS8.out.later hb9); have BB := hid (below_call HB8.out hb9); clear hb9))
            clear x2 x3 x4 y0 y1
            have hEm : Hid (E.length ≤ mo) := TT.out.a.most
            have hEmi : ¬ (mo : Int) < (E.length : Int) := by have := hEm.out; omega
            go_wp2_with (first | (go_at_call 13; refine (d_len TT.out.a).mono ?_; rintro e w20 ⟨rfl, hw⟩; obtain rfl := hw.symm; clear hw) | (go_at_call 13; refine (d_len TT.out.b).mono ?_; rintro e w21 ⟨rfl, hw⟩; obtain rfl := hw.symm; clear hw))
            exact ⟨⟨i + 1, E, by omega, by go_num, TT.out, BB.out⟩, by simp [intOf]; omega⟩
          · have HFU : Hid (E.length < mo) := by have := HS.out.a.most; unfold Hid; omega
            clear hfu
            go_upto_region 18 with (first | (go_at_call 10; refine (D.put_ok (HS.out.a.later (below2 _ _ _)) co ch cl (v, (i : Int)) hok1 hok2 HC.out HFU.out).mono ?_; rintro e w8 ⟨rfl, T8, B8⟩; have HA8 := hid T8; have HE8 := hid ((HS.out.b.later (below2 _ _ _)).but B8 hha.out hhb.out); have HB8 := hid (B8.below (below_call HB.out (below2 _ _ _)) hin.out); have SB8 := hid ((SB.out.later (below1 _ _)).but B8 hni.out); have VB8 := hid (VB.out.but B8 hni2.out); clear T8 B8))
            obtain ⟨x2, x3, x4⟩ := (⟨SB8.out.c2, SB8.out.c3, SB8.out.c4⟩ : _ ∧ _ ∧ _)
            simp only [Nat.zero_add] at x2 x3 x4
            obtain ⟨y0, y1⟩ := (⟨VB8.out.c0, VB8.out.c1⟩ : _ ∧ _)
            go_upto_region 19 with (first | (go_at_call 10; refine (D.put_ok HE8.out co ch cl (v, (i : Int)) hok1 hok2 HC.out HFU.out).mono ?_; rintro e w9 ⟨rfl, T9, B9⟩; have TT : Hid (Two w9 g gb k1 N1 h hb k2 N2 mo (E ++ [((co, ch, cl), (v, (i : Int)))])) := hid ⟨HA8.out.but B9 hga.out hgb.out, T9⟩; have BB := hid (B9.below HB8.out hin2.out); clear T9 B9))
            clear x2 x3 x4 y0 y1
            generalize (E ++ [((co, ch, cl), (v, (i : Int)))]) = E2 at TT
            have hEm : Hid (E2.length ≤ mo) := TT.out.a.most
            have hEmi : ¬ (mo : Int) < (E2.length : Int) := by have := hEm.out; omega
            go_wp2_with (first | (go_at_call 13; refine (d_len TT.out.a).mono ?_; rintro e w20 ⟨rfl, hw⟩; obtain rfl := hw.symm; clear hw) | (go_at_call 13; refine (d_len TT.out.b).mono ?_; rintro e w21 ⟨rfl, hw⟩; obtain rfl := hw.symm; clear hw))
            exact ⟨⟨i + 1, E2, by omega, by go_num, TT.out, BB.out⟩, by simp [intOf]; omega⟩
      by_cases hk2' : kd = 2
      · subst hk2'
        clear hk0
        rcases there_or E (co, ch, cl) with ⟨u, hu⟩ | hno
        · obtain ⟨E2, hE2⟩ := drop_one hu
          have HC := hid hu
          have HE2 := hid hE2
          clear hu hE2
          go_upto_region 23 with (first | (go_at_call 11; refine (D.drop_ok (HS.out.a.alloc _) co ch cl hok1 hok2 u HC.out E2 HE2.out).mono ?_; rintro e w8 ⟨rfl, T8, B8⟩; have HA8 := hid T8; have HE8 := hid ((HS.out.b.alloc _).but B8 hha.out hhb.out); have HB8 := hid (B8.below (below_call HB.out (below1 _ _)) hin.out); have SB8 := hid (SB.out.but B8 hni.out); clear T8 B8))
          obtain ⟨x2, x3, x4⟩ := (⟨SB8.out.c2, SB8.out.c3, SB8.out.c4⟩ : _ ∧ _ ∧ _)
          simp only [Nat.zero_add] at x2 x3 x4
          go_upto_region 25 with (first | (go_at_call 11; refine (D.drop_ok HE8.out co ch cl hok1 hok2 u HC.out E2 HE2.out).mono ?_; rintro e w9 ⟨rfl, T9, B9⟩; have TT : Hid (Two w9 g gb k1 N1 h hb k2 N2 mo E2) := hid ⟨HA8.out.but B9 hga.out hgb.out, T9⟩; have BB := hid (B9.below HB8.out hin2.out); clear T9 B9))
          clear x2 x3 x4
          have hEm : Hid (E2.length ≤ mo) := TT.out.a.most
          have hEmi : ¬ (mo : Int) < (E2.length : Int) := by have := hEm.out; omega
          go_wp2_with (first | (go_at_call 13; refine (d_len TT.out.a).mono ?_; rintro e w20 ⟨rfl, hw⟩; obtain rfl := hw.symm; clear hw) | (go_at_call 13; refine (d_len TT.out.b).mono ?_; rintro e w21 ⟨rfl, hw⟩; obtain rfl := hw.symm; clear hw))
          exact ⟨⟨i + 1, E2, by omega, by go_num, TT.out, BB.out⟩, by simp [intOf]; omega⟩
        · have HC := hid hno
          clear hno
          go_upto_region 23 with (first | (go_at_call 11; refine (D.drop_none (HS.out.a.alloc _) co ch cl hok1 hok2 HC.out).mono ?_; rintro e w8 ⟨rfl, hb8⟩; have HS8 := hid ((HS.out.later (below1 _ _)).later hb8); have HB8 := hid (below_call (below_call HB.out (below1 _ _)) hb8); have SB8 := hid (SB.out.later hb8); clear hb8))
          obtain ⟨x2, x3, x4⟩ := (⟨SB8.out.c2, SB8.out.c3, SB8.out.c4⟩ : _ ∧ _ ∧ _)
          simp only [Nat.zero_add] at x2 x3 x4
          go_upto_region 25 with (first | (go_at_call 11; refine (D.drop_none HS8.out.b co ch cl hok1 hok2 HC.out).mono ?_; rintro e w9 ⟨rfl, hb9⟩; have TT := hid (HS8.out.later hb9); have BB := hid (below_call HB8.out hb9); clear hb9))
          clear x2 x3 x4
          have hEm : Hid (E.length ≤ mo) := TT.out.a.most
          have hEmi : ¬ (mo : Int) < (E.length : Int) := by have := hEm.out; omega
          go_wp2_with (first | (go_at_call 13; refine (d_len TT.out.a).mono ?_; rintro e w20 ⟨rfl, hw⟩; obtain rfl := hw.symm; clear hw) | (go_at_call 13; refine (d_len TT.out.b).mono ?_; rintro e w21 ⟨rfl, hw⟩; obtain rfl := hw.symm; clear hw))
          exact ⟨⟨i + 1, E, by omega, by go_num, TT.out, BB.out⟩, by simp [intOf]; omega⟩
      · have hn0 : (kd == 0) = false := by simpa using hk0
        have hn2 : (kd == 2) = false := by simpa using hk2'
        clear hk0 hk2'
        rcases there_or E (co, ch, cl) with ⟨u, hu⟩ | hno
        · obtain ⟨u1, u2⟩ := u
          have HC := hid hu
          clear hu
          have hq1 : aEq u1 u2 u1 u2 = true := by simp [aEq]
          have heq := fun W => neqA u1 u2 u1 u2 W
          simp only [hq1] at heq
          clear hq1
          go_upto_region 12 with (first | (go_at_call 12; refine (D.get_ok (HS.out.a.alloc _) co ch cl hok1 hok2 (u1, u2) HC.out).mono ?_; rintro e w8 ⟨rfl, hb8⟩; have HS8 := hid (((HS.out.later (below1 _ _)).later hb8).later (below1 w8 (Obj.cells #[.int .i64 u1, .int .i64 u2] 28))); have HB8 := hid (below_call (below_call (below_call HB.out (below1 _ _)) hb8) (below1 w8 (Obj.cells #[.int .i64 u1, .int .i64 u2] 28))); have SB8 := hid ((SB.out.later hb8).later (below1 w8 (Obj.cells #[.int .i64 u1, .int .i64 u2] 28))); have VB8 := hid (vb1 w8 u1 u2); clear hb8))
          obtain ⟨x2, x3, x4⟩ := (⟨SB8.out.c2, SB8.out.c3, SB8.out.c4⟩ : _ ∧ _ ∧ _)
          simp only [Nat.zero_add] at x2 x3 x4
          go_upto_region 13 with (first | (go_at_call 12; refine (D.get_ok HS8.out.b co ch cl hok1 hok2 (u1, u2) HC.out).mono ?_; rintro e w9 ⟨rfl, hb9⟩; have TT := hid ((HS8.out.later hb9).later (below1 w9 (Obj.cells #[.int .i64 u1, .int .i64 u2] 28))); have BB := hid (below_call (below_call HB8.out hb9) (below1 w9 (Obj.cells #[.int .i64 u1, .int .i64 u2] 28))); have VB9 := hid ((VB8.out.later hb9).later (below1 w9 (Obj.cells #[.int .i64 u1, .int .i64 u2] 28))); clear hb9))
          clear x2 x3 x4
          obtain ⟨y0, y1⟩ := (⟨VB9.out.c0, VB9.out.c1⟩ : _ ∧ _)
          go_upto_region 25 with fail
          clear y0 y1
          have hEm : Hid (E.length ≤ mo) := TT.out.a.most
          have hEmi : ¬ (mo : Int) < (E.length : Int) := by have := hEm.out; omega
          go_wp2_with (first | (go_at_call 13; refine (d_len TT.out.a).mono ?_; rintro e w20 ⟨rfl, hw⟩; obtain rfl := hw.symm; clear hw) | (go_at_call 13; refine (d_len TT.out.b).mono ?_; rintro e w21 ⟨rfl, hw⟩; obtain rfl := hw.symm; clear hw))
          exact ⟨⟨i + 1, E, by omega, by go_num, TT.out, BB.out⟩, by simp [intOf]; omega⟩
        · have HC := hid hno
          clear hno
          have hq1 : aEq 0 0 0 0 = true := by simp [aEq]
          have heq := fun W => neqA 0 0 0 0 W
          simp only [hq1] at heq
          clear hq1
          go_upto_region 12 with (first | (go_at_call 12; refine (D.get_none (HS.out.a.alloc _) co ch cl hok1 hok2 HC.out).mono ?_; rintro e w8 ⟨rfl, hb8⟩; have HS8 := hid (((HS.out.later (below1 _ _)).later hb8).later (below1 w8 (Obj.cells #[.int .i64 0, .int .i64 0] 28))); have HB8 := hid (below_call (below_call (below_call HB.out (below1 _ _)) hb8) (below1 w8 (Obj.cells #[.int .i64 0, .int .i64 0] 28))); have SB8 := hid ((SB.out.later hb8).later (below1 w8 (Obj.cells #[.int .i64 0, .int .i64 0] 28))); have VB8 := hid (vb1 w8 0 0); clear hb8))
          obtain ⟨x2, x3, x4⟩ := (⟨SB8.out.c2, SB8.out.c3, SB8.out.c4⟩ : _ ∧ _ ∧ _)
          simp only [Nat.zero_add] at x2 x3 x4
          go_upto_region 13 with (first | (go_at_call 12; refine (D.get_none HS8.out.b co ch cl hok1 hok2 HC.out).mono ?_; rintro e w9 ⟨rfl, hb9⟩; have TT := hid ((HS8.out.later hb9).later (below1 w9 (Obj.cells #[.int .i64 0, .int .i64 0] 28))); have BB := hid (below_call (below_call HB8.out hb9) (below1 w9 (Obj.cells #[.int .i64 0, .int .i64 0] 28))); have VB9 := hid ((VB8.out.later hb9).later (below1 w9 (Obj.cells #[.int .i64 0, .int .i64 0] 28))); clear hb9))
          clear x2 x3 x4
          obtain ⟨y0, y1⟩ := (⟨VB9.out.c0, VB9.out.c1⟩ : _ ∧ _)
          go_upto_region 25 with fail
          clear y0 y1
          have hEm : Hid (E.length ≤ mo) := TT.out.a.most
          have hEmi : ¬ (mo : Int) < (E.length : Int) := by have := hEm.out; omega
          go_wp2_with (first | (go_at_call 13; refine (d_len TT.out.a).mono ?_; rintro e w20 ⟨rfl, hw⟩; obtain rfl := hw.symm; clear hw) | (go_at_call 13; refine (d_len TT.out.b).mono ?_; rintro e w21 ⟨rfl, hw⟩; obtain rfl := hw.symm; clear hw))
          exact ⟨⟨i + 1, E, by omega, by go_num, TT.out, BB.out⟩, by simp [intOf]; omega⟩
    · have hst := hid (HS.out.a.most)
      have hsm : E.length ≤ 512 := by have := HS.out.a.most; have := HS.out.a.small; omega
      have hkl : (srt (E.map Prod.fst)).length = E.length := by rw [(srt_perm _).length_eq, List.length_map]
      have HKL := hid hkl
      clear hkl
      go_wp2_with (first
        | (go_at_call 14; refine (same_any _ _ RA.out RB.out (by omega) (by omega)).mono ?_; rintro e w10 ⟨rfl, q10, hw10⟩; have BB := hid (below_call HB9.out (drew_below hw10)); clear hw10)
        | (go_at_call 15; have hq_ := HS8; clear hq_; refine (D.caps_any HS8.out.b).mono ?_; rintro e w9 ⟨bk2, rfl, C9, _, hb9⟩; have RA := hid (CA8.out.later hb9); have RB := hid (C9.rd HKL.out); have HB9 := hid (below_call HB8.out hb9); clear C9 hb9)
        | (go_at_call 15; refine (D.caps_any HS.out.a).mono ?_; rintro e w8 ⟨bk, rfl, C8, _, hb8⟩; have CA8 := hid (C8.rd HKL.out); have HS8 := hid (HS.out.later hb8); have HB8 := hid (below_call HB.out hb8); clear C8 hb8))
      go_ret
      exact ⟨ret_bool (by simp), BB.out⟩
end Go.Proofs.Ytdkadmnhfnilkaa
