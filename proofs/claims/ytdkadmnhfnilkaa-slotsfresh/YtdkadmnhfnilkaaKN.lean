import Derived.Test.YtdkadmnhfnilkaaTAI
import Derived.Test.YtdkadmnhfnilkaaB2
namespace Go.Proofs.Ytdkadmnhfnilkaa
open Go.RowKit I
set_option linter.unusedVariables false

def kc : Cp := (1, 0, 5)
def kE : List (Cp × Int) := [(kc, 7)]
theorem kE_srt : srt (kE.map Prod.fst) = [kc] := by
  have h := (srt_perm (kE.map Prod.fst))
  exact List.perm_singleton.1 h
theorem drew_below {w w' : World} {q : Nat} (h : w' = w.drewN q) : Below w.heap.size w w' := by rw [h]; exact below_drewN (Below.refl _ _) _
set_option maxRecDepth 100000 in
set_option maxHeartbeats 4000000 in
theorem known_any (w : World) : Calls Try.prog 9 #[] w fun e w' => e = .returned (.bool true) ∧ Below w.heap.size w w' := by
  have hkl : kE.length = 1 := rfl
  have hB0 : (0 : Nat) < B64 := by decide
  have hB5 : (5 : Nat) < B64 := by decide
  go_enter Try.func9, Try.ntmps9
  go_upto_region 4 with (first | (go_at_call 16; refine (new_ok _ 2 0 (by omega) (by omega) (by omega)).mono ?_; rintro e w1 ⟨g, gb, N, rfl, T1, hg, hgb, hb1⟩; have HT1 := hid T1; have HB1 := hid hb1; clear T1 hb1))
  have T2 := hid (HT1.out.alloc (Obj.cells #[.int .i64 1, .int .u64 ((0 : Nat) : Int), .int .u64 ((5 : Nat) : Int)] 34))
  have BX := hid (Bx.new w1 1 0 5)
  have hnin : Hid (¬ In g gb w1.heap.size) := by
    have h1 := HT1.out.lt
    have h2 := HT1.out.lt2
    rintro (h3 | h3) <;> omega
  go_upto_region 6 with (first | (go_at_call 17; refine (put_ok T2.out 1 0 5 7 hB0 hB5 (by simp) (by decide)).mono ?_; rintro e w3 ⟨rfl, T3, B3⟩; have HT3 : Hid (Tb w3 g gb 0 2 N kE) := hid T3; have HB3 := hid (But.trans (But.of (below1 _ _)) B3); have BX3 := hid (BX.out.but B3 hnin.out); clear T3 B3))
  obtain ⟨x0, x1, x2⟩ := (⟨BX3.out.c0, BX3.out.c1, BX3.out.c2⟩ : _ ∧ _ ∧ _)
  go_upto_region 7 with (first | (go_at_call 17; refine (put_there HT3.out 1 0 5 8 hB0 hB5 (by decide)).mono ?_; rintro e w4 ⟨rfl, hb4⟩; have HT4 := hid (HT3.out.later hb4); have HB4 := hid (HB3.out.call hb4); have BX4 := hid (BX3.out.later hb4); clear hb4))
  clear x0 x1 x2
  obtain ⟨x0, x1, x2⟩ := (⟨BX4.out.c0, BX4.out.c1, BX4.out.c2⟩ : _ ∧ _ ∧ _)
  go_upto_region 8 with (first | (go_at_call 21; refine (get_ok HT4.out 1 0 5 hB0 hB5 7 (by decide)).mono ?_; rintro e w5 ⟨rfl, hb5⟩; have HT5 := hid (HT4.out.later hb5); have HB5 := hid (HB4.out.call hb5); have BX5 := hid (BX4.out.later hb5); clear hb5))
  clear x0 x1 x2
  have hC : Hid (∀ U : World, But (In g gb) w5 U → (U.cell? ⟨w1.heap.size, 0, none⟩ = some (.int .i64 1) ∧ U.cell? ⟨w1.heap.size, 1, none⟩ = some (.int .u64 0) ∧ U.cell? ⟨w1.heap.size, 2, none⟩ = some (.int .u64 5)) ∧ But (In g gb) w5 U) := fun U hU => ⟨⟨cell_but hU BX5.out.c0 hnin.out, cell_but hU BX5.out.c1 hnin.out, cell_but hU BX5.out.c2 hnin.out⟩, hU⟩
  obtain ⟨x0, x1, x2⟩ := (hC.out w5 (But.refl _ _)).1
  have hAl : Below w5.heap.size w5 (w5.alloc (Obj.cells #[.int .i64 1, .int .u64 0, .int .u64 5] 34)).drew := (below1 _ _).drew
  have HTA := hid (HT5.out.later hAl)
  have HBA := hid (But.of (S := In g gb) hAl)
  have RDA := hid ((rd_one w5 kc).later (Below.refl _ _).drew)
  clear hAl
  obtain ⟨L5, sp5, S5⟩ := HT5.out
  have HTD := hid (HT5.out.later (Below.refl _ _).drew)
  have HBD := hid (But.of (S := In g gb) (Below.refl w5.heap.size w5).drew)
  have HL5 := hid (S5.tm.later (Below.refl _ _).drew)
  clear S5
  go_region_held3 (fun U => (U.cell? ⟨w1.heap.size, 0, none⟩ = some (.int .i64 1) ∧ U.cell? ⟨w1.heap.size, 1, none⟩ = some (.int .u64 0) ∧ U.cell? ⟨w1.heap.size, 2, none⟩ = some (.int .u64 5)) ∧ But (In g gb) w5 U) (first | exact hC.out _ HB9.out | exact hC.out _ HB8.out | exact hC.out _ HB7.out | exact hC.out _ HBS.out | exact hC.out _ HB6.out | exact hC.out _ HBA.out | exact hC.out _ (But.of (Below.refl _ _).drew))
    (first
      | (go_at_call 22; refine (drop_none HT8.out 1 0 5 hB0 hB5 (by simp)).mono ?_; rintro e w9 ⟨rfl, hb9⟩; have HB9 := hid (HB8.out.call hb9); clear hb9)
      | (go_at_call 22; refine (drop_ok HT7.out 1 0 5 hB0 hB5 7 (by decide) [] (List.Perm.refl _)).mono ?_; rintro e w8 ⟨rfl, T8, B8⟩; have HT8 := hid T8; have HB8 := hid (HB7.out.trans B8); clear T8 B8)
      | (go_at_call 14; refine (same_any _ _ (CAS.out.rd (n := 1) (by rw [kE_srt]; rfl)) RDS.out (by omega) (by omega)).mono ?_; rintro e w7 ⟨rfl, q7, hw7⟩; rw [kE_srt]; have HB7 := hid (HBS.out.call (drew_below hw7)); have HT7 := hid (HTS.out.later (drew_below hw7)); clear hw7)
      | (go_at_call 18; refine (caps_any HTA.out).mono ?_; rintro e w6 ⟨bk, rfl, C6, hbk, hb6⟩; have HTS := hid (HTA.out.later hb6); have HBS := hid (HBA.out.call hb6); have CAS := hid C6; have RDS := hid (RDA.out.later hb6); clear C6 hb6)
      | (go_at_call 18; refine (caps_any HTD.out).mono ?_; rintro e w6 ⟨bk, rfl, C6, hbk, hb6⟩; have HB6 := hid (HBD.out.call hb6); have HTS := hid ((HTD.out.later hb6).alloc (Obj.cells #[.int .i64 1, .int .u64 0, .int .u64 5] 34)); have HBS := hid (HB6.out.call (below1 _ (Obj.cells #[.int .i64 1, .int .u64 0, .int .u64 5] 34))); have CAS := hid (C6.alloc (Obj.cells #[.int .i64 1, .int .u64 0, .int .u64 5] 34)); have RDS := hid (rd_one w6 kc); clear C6 hb6)
      | (go_at_call 20; refine (len_any HL5.out).mono ?_; rintro e w55 ⟨rfl, hw⟩; obtain rfl := hw.symm))
  all_goals go_wp2
  all_goals go_ret
  all_goals exact ⟨rfl, But.below HB1.out (HB5.out.trans HB9.out) (fun k hk => by rcases hk with rfl | rfl <;> assumption)⟩
end Go.Proofs.Ytdkadmnhfnilkaa
