import Derived.Test.YticgammbjcdobaaOB
import Derived.Deep.CutBlock
namespace Go.Proofs.Yticgammbjcdobaa
open Go.RowKit
set_option linter.unusedVariables false
set_option linter.unusedSimpArgs false
abbrev C6 : List Value := [.int .i64 1, .int .i64 0, .int .i64 1, .int .i64 0, .int .u64 0, .int .u64 0, .bool false, .int .i64 0, .int .i64 0, .int .i64 0, .slice none 0 0, .int .i64 0, .slice none 0 0]
theorem bl_new {w w1 : World} (h : Bw w1 (m0 w.heap.size)) (hb : Below w.heap.size w w1) : Bl w (w.heap.size + 5) w1 (m0 w.heap.size) [] none 0 :=
  ⟨⟨h, rfl, (fun g hg => by cases hg), (fun i c hc => by simp at hc), rfl, .inl ⟨rfl, rfl, rfl⟩⟩, rfl, Ow.nil _ _ _ _, (fun k hk => by cases hk), ⟨(fun j hj => by simp [Bm.blks] at hj; omega), (fun k hk => by cases hk)⟩, hb⟩
theorem neqL (s o : Int) (h l : Int) (w : World) : (binOp .neq 46 (.agg #[.int .i64 s, .int .i64 1, .int .i64 0, .int .i64 0, .int .i64 o, .int .u64 h, .int .u64 l]) (.agg #[.int .i64 s, .int .i64 1, .int .i64 0, .int .i64 0, .int .i64 o, .int .u64 h, .int .u64 l])).run Try.prog w = .ok (.bool false) w := by simp [go_sem]
def K1 (w : World) (n : Nat) (v4 v5 : Value) (U : World) : Prop := ∃ (m : Bm) (l : List Cp) (a4 : Option Addr) (c4 : Nat), v4 = .slice a4 l.length c4 ∧ v5 = .int .i64 (l.length : Int) ∧ l.length ≤ n ∧ l.length ≤ 20 ∧ Bl w (w.heap.size + 5) U m l a4 c4
/-- What is written over and lengthened. -/
def K2 (V : World) (a7 : Option Addr) (n7 c7 : Nat) (v9 : Value) (U : World) : Prop := ∃ (j : Nat) (L : List Value), v9 = .int .i64 (j : Int) ∧ j ≤ n7 ∧ Ow U 0 31 3 a7 n7 c7 L ∧ But (Blk a7) V U
def K3 (V : World) (a7 : Option Addr) (n7 : Nat) (v7 v10 : Value) (U : World) : Prop := ∃ (j : Nat) (a : Option Addr) (c : Nat) (L : List Value), v7 = .slice a (n7 + j) c ∧ v10 = .int .i64 (j : Int) ∧ j ≤ 30 ∧ Ow U 0 31 3 a (n7 + j) c L ∧ (∀ i, Blk a i → Blk a7 i ∨ V.heap.size ≤ i) ∧ But (Blk a7) V U
def K4 (w : World) (g : Nat) (m : Bm) (l : List Cp) (a4 : Option Addr) (c4 : Nat) (v11 : Value) (U : World) : Prop := ∃ j : Nat, v11 = .int .i64 (j : Int) ∧ j ≤ l.length ∧ Bl w g U m l a4 c4
set_option maxRecDepth 100000 in
set_option maxHeartbeats 8000000 in
theorem keeps_law (a : Option Addr) (n c : Nat) (X : List Nat) (w : World) (hX : Ws w a n X) :
    Calls Try.prog 3 #[.slice a n c] w fun e w' => e = .returned (.bool true) ∧ Below w.heap.size w w' := by
  have HNew := hid (new_any w)
  have HX := hid hX
  clear hX
  go_enter Try.func3, Try.ntmps3
  go_upto_region 5 with (first | (go_at_call 5; refine HNew.out.mono ?_; rintro x w1 ⟨rfl, hw1, hb1⟩; have HW1 := hid hw1; have HB1 := hid hb1; clear hw1 hb1) | (go_at_call 6; refine (alive_any _).mono ?_; rintro x w2 ⟨rfl, hb2⟩; have HB2 := hid hb2; clear hb2))
  have HBl : Hid (Bl w (w.heap.size + 5) w2 (m0 w.heap.size) [] none 0) := (bl_new HW1.out HB1.out).later HB2.out
  clear HNew HW1 HB1 HB2
  go_upto_block 0 with fail
  go_cut [4, 5, 6] from 26 to 53 (fun v4 v5 _ U => ∃ (m : Bm) (l : List Cp) (a4 : Option Addr) (c4 : Nat), v4 = .slice a4 l.length c4 ∧ l.length ≤ 20 ∧ Bl w (w.heap.size + 5) U m l a4 c4)
  case first =>
    go_wp2_with fail
    go_loopw [4, 5] (K1 w n) (fun _ v5 _ => 20 - ivN v5)
    case atStart => exact ⟨m0 w.heap.size, [], none, 0, rfl, rfl, Nat.zero_le _, Nat.zero_le _, HBl.out⟩
    case round =>
      obtain ⟨m, l, a4, c4, rfl, rfl, hl1, hl2, hBl⟩ := hrel
      have HBj := hid hBl
      clear hBl HBl
      by_cases h1 : l.length < n
      · by_cases h2 : l.length < 20
        · obtain ⟨x, hx⟩ : ∃ x, X[l.length]? = some x := ⟨_, List.getElem?_eq_getElem (by rw [HX.out.len]; exact h1)⟩
          obtain ⟨b, o, rfl, hc, hlt⟩ := (HX.out.later HBj.out.be).each _ x hx
          have hd1 : decide ((l.length : Int) < (n : Int)) = true := by simp; omega
          have hd2 : decide ((l.length : Int) < 20) = true := by simp; omega
          have hi1 : (l.length : Int) < (n : Int) := by omega
          clear hx
          go_upto_region 9 with fail
          obtain ⟨V1, hV1⟩ : ∃ V, V = wr.alloc (Obj.cells #[.int .i64 ((l.length : Int) + 1), .int .u64 0, .int .u64 (x : Int)] 31) := ⟨_, rfl⟩
          rw [← hV1]
          obtain ⟨kx, hkx⟩ : ∃ k, k = wr.heap.size := ⟨_, rfl⟩
          rw [← hkx]
          have hb1 : Below wr.heap.size wr V1 := by rw [hV1]; exact below1 _ _
          have HXc : Hid (Bx V1 kx [.int .i64 ((l.length : Int) + 1), .int .u64 0, .int .u64 (x : Int)]) := by rw [hkx, hV1]; exact Bx.new wr [.int .i64 ((l.length : Int) + 1), .int .u64 0, .int .u64 (x : Int)] _
          have HB1 := hid (HBj.out.later hb1)
          obtain ⟨a', c', w7, r7, hk7, ho7, hd7, b7⟩ := HB1.out.app ⟨(l.length : Int) + 1, 0, x⟩ (by omega)
          have HR7 : Hid ((Builtin.append_ #[26, 26] 26 #[.slice a4 l.length c4, .slice (some ⟨V1.heap.size, 0, none⟩) 1 1]).run Try.prog (V1.alloc (Obj.cells #[.int .i64 ((l.length : Int) + 1), .int .u64 0, .int .u64 (x : Int)] 31)) = .ok (.slice a' (l.length + 1) c') w7) := r7
          have HXc7 := hid (HXc.out.but b7 (fun hj => by have := (HBj.out.ow.blk kx hj).2; omega))
          have HNt := hid (Bl.note ⟨(l.length : Int) + 1, 0, x⟩ hk7 HBj.out.eg ho7 hd7 HBj.out.lo (But.below HB1.out.be b7 (fun j hj => by have := (HBj.out.ow.blk j hj).1; omega)) rfl ⟨⟨by simp only; omega, by simp only; omega⟩, by show (0 : Nat) < _; omega, hlt⟩ (by omega) C6 rfl rfl rfl ⟨none, 0, 0⟩ 0)
          clear hV1 hkx hb1 r7 hk7 ho7 hd7 b7 hc
          have c0 := HXc.out.cell 0 rfl
          have c1 := HXc.out.cell 1 rfl
          have c2 := HXc.out.cell 2 rfl
          go_upto_region 10 with (first | (at_builtin; refine wpList_append_known rfl _ _ 26 rfl _ _ rfl rfl _ w7 HR7.out ?_))
          clear c0 c1 c2
          have c0 := HXc7.out.cell 0 rfl
          have c1 := HXc7.out.cell 1 rfl
          have c2 := HXc7.out.cell 2 rfl
          go_wp2_with (first | (go_at_call 7; refine HNt.out.mono ?_; rintro e w8 ⟨rfl, m', hbl8⟩; have HBl8 := hid hbl8; clear hbl8))
          exact ⟨⟨m', l ++ [⟨(l.length : Int) + 1, 0, x⟩], a', c', by rw [List.length_append]; rfl, by rw [List.length_append]; simp, by rw [List.length_append]; simp; omega, by rw [List.length_append]; simp; omega, HBl8.out⟩, by simp [ivN]; omega⟩
        · have hd1 : decide ((l.length : Int) < (n : Int)) = true := by simp; omega
          have hd2 : decide ((l.length : Int) < 20) = false := by simp; omega
          go_wp2
          go_meet
          exact ⟨m, l, a4, c4, rfl, hl2, HBj.out⟩
      · have hd1 : decide ((l.length : Int) < (n : Int)) = false := by simp; omega
        go_wp2
        go_meet
        exact ⟨m, l, a4, c4, rfl, hl2, HBj.out⟩
  case rest =>
  rename World => V0
  obtain ⟨m, l, a4, c4, rfl, hl, hBl⟩ := hcut
  have HB0 := hid hBl
  have HKn := hid (fun (U : World) (hU : Below V0.heap.size V0 U) => (hBl.later hU).kp.known (by omega))
  rw [hBl.eg] at HKn
  have HLn := hid hl
  clear hBl HBl HX
  obtain ⟨N, hN⟩ : ∃ N, N = l.length := ⟨_, rfl⟩
  rw [← hN] at HKn HLn ⊢
  have HN := hid hN
  have hN20 : N ≤ 20 := HLn.out
  clear hN hl
  go_upto_region 12 with (first | (go_at_call 8; refine (HKn.out _ (Below.refl _ _)).mono ?_; rintro e w11 ⟨a7, c7, rfl, ho7, hb11⟩; have HO7 := hid ho7; have HB11 := hid hb11; clear ho7 hb11))
  go_upto_region 13 with (first | (go_at_call 8; refine (HKn.out _ HB11.out).mono ?_; rintro e w12 ⟨a8, c8, rfl, ho8, hb12⟩; have HO8 := hid ho8; have HB12 := hid hb12; clear ho8 hb12))
  have HV12 : Hid (Below V0.heap.size V0 w12) := below_call HB11.out HB12.out
  have HO4 : Hid (∀ U, Below V0.heap.size V0 U → Ow U (w.heap.size + 6) 31 3 a4 N c4 (capsL l)) := fun U hU => by have := (HB0.out.later hU).ow; rw [← HN.out] at this; exact this
  have HC1 := hid (caps_same (HO7.out.later HB12.out) (HO4.out _ HV12.out) HN.out.symm (by omega))
  have HC2 := hid (fun (U : World) (hU : Below w12.heap.size w12 U) => caps_same (HO8.out.later hU) (HO4.out _ (below_call HV12.out hU)) HN.out.symm (by omega))
  go_upto_region 15 with (first | (have hq_ := MK1; clear hq_; go_at_call 9; refine (HC2.out _ HB13.out).mono ?_; rintro e w14 ⟨rfl, hb14⟩; have HB14 := hid (below_call HB13.out hb14); clear hb14) | (go_at_call 9; refine HC1.out.mono ?_; rintro e w13 ⟨rfl, hb13⟩; have HB13 := hid hb13; obtain ⟨MK1, _⟩ : ∃ q : Nat, q = 0 := ⟨0, rfl⟩; clear hb13))
  have HV14 : Hid (Below V0.heap.size V0 w14) := below_call HV12.out HB14.out
  have HO7x : Hid (Ow w14 V0.heap.size 31 3 a7 N c7 (capsL l)) := (HO7.out.later HB12.out).later HB14.out
  have HO8x : Hid (Ow w14 w11.heap.size 31 3 a8 N c8 (capsL l)) := HO8.out.later HB14.out
  have HLt : Hid (∀ j, Blk a7 j → j < w11.heap.size) := fun j hj => (HO7.out.blk j hj).2
  clear HC1 HC2 HO7 HO8 HB12 HB13 HB14 HB11 HV12
  go_upto_block 2 with fail
  go_wp2_with fail
  go_loopw [9] (K2 w14 a7 N c7) (fun v _ => N - ivN v)
  case atStart => exact ⟨0, _, rfl, Nat.zero_le _, HO7x.out.mono (Nat.zero_le _), But.refl _ _⟩
  case round =>
    obtain ⟨j, L, rfl, hj, ho, hb⟩ := hrel
    by_cases hlt : j < N
    · obtain ⟨g7, rfl⟩ := ho.some_of (by omega)
      have hst := stCp (w := wr) (b := g7) (o := j * 3) (L := [.int .i64 (-1), .int .u64 0, .int .u64 0]) (ho.there (by omega)) rfl (one3 _ _ _)
      have ho2 := Ow.setCells [.int .i64 (-1), .int .u64 0, .int .u64 0] (j * 3) wr L ho
      have hb2 : But (Blk (some ⟨g7, 0, none⟩)) w14 (wr.setCells g7 (j * 3) [.int .i64 (-1), .int .u64 0, .int .u64 0]) := setCells_but ⟨_, rfl, rfl⟩ _ _ hb
      generalize wr.setCells g7 (j * 3) [.int .i64 (-1), .int .u64 0, .int .u64 0] = W2 at hst ho2 hb2
      have HST := hid hst
      have HO2 := hid ho2
      have HB2 := hid hb2
      have hd : decide ((j : Int) < (N : Int)) = true := by simp; omega
      have hi1 : (j : Int) < (N : Int) := by omega
      clear hst ho2 hb2 ho hb
      go_wp2_with (first | ((with_reducible refine st_arm HST.out ?_ ?_ ?_); (· rfl); (· rfl)))
      exact ⟨⟨j + 1, _, rfl, hlt, HO2.out, HB2.out⟩, by simp [ivN]; omega⟩
    · obtain rfl : j = N := by omega
      have hd : decide ((j : Int) < (j : Int)) = false := by simp
      have HOa := hid ho
      have HBa := hid hb
      clear ho hb hlt
      go_upto_block 4 with fail
      go_wp2_with fail
      obtain ⟨Va, hVa⟩ : ∃ V, V = wr := ⟨_, rfl⟩
      have HBva : Hid (But (Blk a7) w14 Va) := by rw [hVa]; exact HBa.out
      have HOva : Hid (Ow Va 0 31 3 a7 j c7 L) := by rw [hVa]; exact HOa.out
      clear HOa HBa
      go_loopw [7, 10] (K3 Va a7 j) (fun _ v _ => 30 - ivN v)
      case atStart => exact ⟨0, a7, c7, L, rfl, rfl, Nat.zero_le _, by rw [← hVa]; exact HOva.out, fun i hi => .inl hi, by rw [← hVa]; exact But.refl _ _⟩
      case round =>
        clear hVa
        obtain ⟨i, a, c, L3, rfl, rfl, hi, ho, hn3, hb⟩ := hrel
        by_cases hlt : i < 30
        · obtain ⟨a', c', w7, r7, o7, b7, n7⟩ := ow_snoc 26 31 _ 3 24 Try.underlying26 infoC3 rfl (by omega) (cs := [.int .i64 (-1), .int .u64 0, .int .u64 0]) ho rfl (one3 _ _ _) (Nat.zero_le _) (by omega) (by omega)
          have HR7 : Hid ((Builtin.append_ #[26, 26] 26 #[.slice a (j + i) c, .slice (some ⟨wr.heap.size, 0, none⟩) 1 1]).run Try.prog (wr.alloc (Obj.cells #[.int .i64 (-1), .int .u64 0, .int .u64 0] 31)) = .ok (.slice a' (j + i + 1) c') w7) := r7
          have HO7 := hid o7
          have HB7 : Hid (But (Blk a7) Va w7) := hb.comp b7 (fun k hk => (hn3 k hk))
          have HN7 : Hid (∀ k, Blk a' k → Blk a7 k ∨ Va.heap.size ≤ k) := fun k hk => by
            rcases n7 k hk with h1 | h1
            · exact hn3 k h1
            · exact .inr (Nat.le_trans hb.size h1)
          have hd : decide ((i : Int) < 30) = true := by simp; omega
          clear r7 o7 b7 n7 ho hn3 hb
          go_wp2_with (first | (at_builtin; refine wpList_append_known rfl _ _ 26 rfl _ _ rfl rfl _ w7 HR7.out ?_))
          exact ⟨⟨i + 1, a', c', _, rfl, rfl, by omega, HO7.out, HN7.out, HB7.out⟩, by simp [ivN]; omega⟩
        · have hd : decide ((i : Int) < 30) = false := by simp; omega
          have HBb : Hid (But (Blk a7) w14 wr) := HBva.out.trans hb
          have HVr : Hid (Below V0.heap.size V0 wr) := But.below HV14.out HBb.out (fun k hk => (HO7x.out.blk k hk).1)
          have HO8r : Hid (Ow wr w11.heap.size 31 3 a8 j c8 (capsL l)) := HO8x.out.but HBb.out (fun k hk hk2 => by have h1 := (HO8x.out.blk k hk).1; have h2 := HLt.out k hk2; omega)
          clear ho hn3 hb hlt HBva HOva
          have HC1 := hid (caps_same HO8r.out (HO4.out _ HVr.out) HN.out.symm (by omega))
          go_upto_region 25 with (first | (have hq_ := MK3; clear hq_; go_at_call 9; refine HC2.out.mono ?_; rintro e w17 ⟨rfl, hb17⟩; have HB17 := hid hb17; clear hb17) | (go_at_call 8; refine (HKn.out _ (below_call HVr.out HB15.out)).mono ?_; rintro e w16 ⟨a9, c9, rfl, ho9, hb16⟩; have HB16 := hid hb16; (have HC2 := hid (caps_same ho9 (HO4.out _ (below_call (below_call HVr.out HB15.out) hb16)) HN.out.symm (by omega))); obtain ⟨MK3, _⟩ : ∃ q : Nat, q = 0 := ⟨0, rfl⟩; clear hb16 ho9) | (go_at_call 9; refine HC1.out.mono ?_; rintro e w15 ⟨rfl, hb15⟩; have HB15 := hid hb15; clear hb15))
          have HBl7 : Hid (Bl w (w.heap.size + 5) w17 m l a4 c4) := HB0.out.later (below_call (below_call (below_call HVr.out HB15.out) HB16.out) HB17.out)
          clear HKn HC1 HC2 HB15 HB16 HB17 HO8r HVr HBb HO7x HO8x HLt HV14 HB0 HO4
          go_upto_block 6 with fail
          go_wp2_with fail
          go_loopw [11] (K4 w (w.heap.size + 5) m l a4 c4) (fun v _ => j - ivN v)
          case atStart => exact ⟨0, rfl, Nat.zero_le _, HBl7.out⟩
          case round =>
            obtain ⟨k, rfl, hk, hbl⟩ := hrel
            have hNl := HN.out
            rw [← hNl] at hk
            by_cases hkj : k < j
            · obtain ⟨⟨xo, xh, xl⟩, hx⟩ : ∃ x, l[k]? = some x := ⟨_, List.getElem?_eq_getElem (by omega)⟩
              have how := hbl.ow
              rw [← hNl] at how
              obtain ⟨g4, rfl⟩ := how.some_of (by omega)
              have HWy := hid (fun (U : World) (hU : Below wr.heap.size wr U) => (hbl.later hU).kp.way (by omega) hx)
              rw [hbl.eg] at HWy
              obtain ⟨q0, q1, q2⟩ := capsL_at hx
              have HRg : Hid (∀ U, Below wr.heap.size wr U → U.cell? ⟨g4, k * 3, none⟩ = some (.int .i64 xo) ∧ U.cell? ⟨g4, k * 3 + 1, none⟩ = some (.int .u64 (xh : Int)) ∧ U.cell? ⟨g4, k * 3 + 2, none⟩ = some (.int .u64 (xl : Int))) := fun U hU => by
                have r := (how.later hU).cells rfl
                exact ⟨rg_at r q0, rg_at r q1, rg_at r q2⟩
              have HBk := hid hbl
              have hd : decide ((k : Int) < (j : Int)) = true := by simp; omega
              have hi1 : (k : Int) < (j : Int) := by omega
              clear hbl how hx q0 q1 q2 HBl7 hNl
              obtain ⟨x0, x1, x2⟩ := HRg.out _ (Below.refl _ _)
              go_upto_region 29 with (first | (go_at_call 10; refine (HWy.out _ (Below.refl _ _)).mono ?_; rintro e w1 ⟨av, cv, rfl, hov, hb1⟩; have HOv := hid hov; have HB1 := hid hb1; clear hov hb1))
              clear x0 x1 x2
              obtain ⟨x0, x1, x2⟩ := HRg.out _ HB1.out
              go_upto_region 30 with (first | (go_at_call 10; refine (HWy.out _ HB1.out).mono ?_; rintro e w2 ⟨aw, cw, rfl, how2, hb2⟩; have HOw := hid how2; have HB2 := hid hb2; clear how2 hb2))
              clear x0 x1 x2
              obtain ⟨gv, rfl⟩ := HOv.out.some_of (by omega)
              obtain ⟨gw, rfl⟩ := HOw.out.some_of (by omega)
              have HVw : Hid (gv < w1.heap.size ∧ wr.heap.size ≤ gv ∧ w1.heap.size ≤ gw) := ⟨(HOv.out.blk gv ⟨_, rfl, rfl⟩).2, (HOv.out.blk gv ⟨_, rfl, rfl⟩).1, (HOw.out.blk gw ⟨_, rfl, rfl⟩).1⟩
              have ho2 := HOv.out.later HB2.out
              have hst := stLk (w := w2) (b := gv) (o := 0) (L := [.int .i64 (-9), .int .i64 0, .int .i64 0, .int .i64 0, .int .i64 0, .int .u64 0, .int .u64 0]) (ho2.there (by omega)) rfl (one7 (-9) 0 0 0 ⟨0, 0, 0⟩)
              have ho3 := Ow.setCells [.int .i64 (-9), .int .i64 0, .int .i64 0, .int .i64 0, .int .i64 0, .int .u64 0, .int .u64 0] 0 w2 _ ho2
              have hb3 : But (Blk (some ⟨gv, 0, none⟩)) w2 (w2.setCells gv 0 [.int .i64 (-9), .int .i64 0, .int .i64 0, .int .i64 0, .int .i64 0, .int .u64 0, .int .u64 0]) := setCells_but ⟨_, rfl, rfl⟩ _ _ (But.refl _ _)
              generalize w2.setCells gv 0 [.int .i64 (-9), .int .i64 0, .int .i64 0, .int .i64 0, .int .i64 0, .int .u64 0, .int .u64 0] = w3 at hst ho3 hb3
              have hB3 : Below wr.heap.size wr w3 := But.below (below_call HB1.out HB2.out) hb3 (fun i hi => by obtain ⟨y, hy, e⟩ := hi; cases hy; simp only at e; have := HVw.out; omega)
              obtain ⟨a', c', w4, r4, o4, b4, n4⟩ := ow_apps 42 46 _ 7 56 Try.underlying42 infoL7 rfl (by omega) (q := 2) (cs := [.int .i64 (-9), .int .i64 0, .int .i64 0, .int .i64 0, .int .i64 0, .int .u64 0, .int .u64 0, .int .i64 (-9), .int .i64 0, .int .i64 0, .int .i64 0, .int .i64 0, .int .u64 0, .int .u64 0]) ho3 rfl (fun u hu => by simp only [List.mem_cons, List.not_mem_nil, or_false] at hu; rcases hu with rfl | rfl | rfl | rfl | rfl | rfl | rfl | rfl | rfl | rfl | rfl | rfl | rfl | rfl <;> rfl) hB3.size (by omega) (by omega)
              have HR4 : Hid ((Builtin.append_ #[42, 42] 42 #[.slice (some ⟨gv, 0, none⟩) 1 cv, .slice (some ⟨w3.heap.size, 0, none⟩) 2 2]).run Try.prog (w3.alloc (Obj.cells #[.int .i64 (-9), .int .i64 0, .int .i64 0, .int .i64 0, .int .i64 0, .int .u64 0, .int .u64 0, .int .i64 (-9), .int .i64 0, .int .i64 0, .int .i64 0, .int .i64 0, .int .u64 0, .int .u64 0] 46)) = .ok (.slice a' 3 c') w4) := r4
              have HST := hid hst
              have hbb : But (Blk (some ⟨gv, 0, none⟩)) w2 w4 := hb3.trans b4
              have HB4 : Hid (Below wr.heap.size wr w4) := But.below hB3 b4 (fun i hi => by obtain ⟨y, hy, e⟩ := hi; cases hy; simp only at e; have := HVw.out; omega)
              have HOw4 : Hid (Ow w4 w1.heap.size 46 7 (some ⟨gw, 0, none⟩) 1 cw (lkL ((k : Int) + 1) 1 0 0 ⟨xo, xh, xl⟩)) := HOw.out.but hbb (fun i hi hi2 => by
                obtain ⟨y, hy, e⟩ := hi
                obtain ⟨y2, hy2, e2⟩ := hi2
                cases hy
                cases hy2
                simp only at e e2
                have := HVw.out
                omega)
              clear hst ho2 ho3 hb3 r4 o4 b4 n4 hB3 hbb
              go_upto_region 34 with (first | ((with_reducible refine st_arm HST.out ?_ ?_ ?_); (· rfl); (· rfl)) | (at_builtin; refine wpList_append_known rfl _ _ 42 rfl _ _ rfl rfl _ w4 HR4.out ?_))
              obtain ⟨x0, x1, x2⟩ := HRg.out _ HB4.out
              have rw4 := HOw4.out.cells rfl
              have y0 := rg_at rw4 (j := 0) rfl
              have y4 := rg_at rw4 (j := 4) rfl
              have y5 := rg_at rw4 (j := 5) rfl
              have y6 := rg_at rw4 (j := 6) rfl
              have hne := neqC' xo (xh : Int) (xl : Int)
              clear rw4
              have hwp : IntKind.i64.wrap ((k : Int) + 1) = (k : Int) + 1 := by rw [IntKind.wrap_i64]; omega
              go_quiet (fail)
              go_upto_region 36 with fail
              clear x0 x1 x2 y0 y4 y5 y6 hne
              have HB4n : Hid (Below wr.heap.size wr (w4.drewN nq)) := below_drewN HB4.out _
              have HOwn : Hid (Ow (w4.drewN nq) w1.heap.size 46 7 (some ⟨gw, 0, none⟩) 1 cw (lkL ((k : Int) + 1) 1 0 0 ⟨xo, xh, xl⟩)) := HOw4.out.later (below_drewN (Below.refl _ _) _)
              generalize w4.drewN nq = w4n at HB4n HOwn ⊢
              obtain ⟨x0, x1, x2⟩ := HRg.out _ HB4n.out
              go_upto_region 37 with (first | (go_at_call 10; refine (HWy.out _ HB4n.out).mono ?_; rintro e w5 ⟨au, cu, rfl, hou, hb5⟩; have HOu := hid hou; have HB5 := hid hb5; clear hou hb5))
              clear x0 x1 x2
              obtain ⟨gu, rfl⟩ := HOu.out.some_of (by omega)
              have ru := HOu.out.cells rfl
              have rw5 := (HOwn.out.later HB5.out).cells rfl
              have y0 := rg_at rw5 (j := 0) rfl
              have y1 := rg_at rw5 (j := 1) rfl
              have y2 := rg_at rw5 (j := 2) rfl
              have y3 := rg_at rw5 (j := 3) rfl
              have y4 := rg_at rw5 (j := 4) rfl
              have y5 := rg_at rw5 (j := 5) rfl
              have y6 := rg_at rw5 (j := 6) rfl
              have z0 := rg_at ru (j := 0) rfl
              have z1 := rg_at ru (j := 1) rfl
              have z2 := rg_at ru (j := 2) rfl
              have z3 := rg_at ru (j := 3) rfl
              have z4 := rg_at ru (j := 4) rfl
              have z5 := rg_at ru (j := 5) rfl
              have z6 := rg_at ru (j := 6) rfl
              have hne := neqL ((k : Int) + 1) xo (xh : Int) (xl : Int)
              clear ru rw5
              go_quiet (fail)
              go_wp2
              exact ⟨⟨k + 1, rfl, by have := HN.out; omega, HBk.out.later (below_call HB4n.out (below_drewN HB5.out _))⟩, by simp [ivN]; omega⟩
            · obtain rfl : k = j := by omega
              have hd : decide ((k : Int) < (k : Int)) = false := by simp
              have HBk := hid hbl
              clear hbl
              go_wp2
              go_ret
              exact ⟨rfl, HBk.out.be⟩
end Go.Proofs.Yticgammbjcdobaa
