import Derived.Test.YtfibidfkhfkfpaaE3
namespace Go.Proofs.Ytfibidfkhfkfpaa
open Go.RowKit
set_option linter.unusedVariables false

def A1Rel (w0 : World) (p r q s : Option Addr) (n : Nat) (f : Nat → Nat) (W V : Int) (z0 z1 z2 z3 z4 z5 gl : Nat) (v : Value) (w' : World) : Prop :=
  ∃ i : Nat, v = .int .i64 (i : Int) ∧ i ≤ n ∧ St w0 w' p r q s n f W V z0 z1 z2 z3 z4 z5 ∧ ArG w' gl i n f
def A2Rel (w0 : World) (p r q s : Option Addr) (n : Nat) (f : Nat → Nat) (W V : Int) (z0 z1 z2 z3 z4 z5 bx bY m : Nat) (v : Value) (w' : World) : Prop :=
  ∃ i : Nat, v = .int .i64 (i : Int) ∧ i ≤ m ∧ St w0 w' p r q s n f W V z0 z1 z2 z3 z4 z5 ∧ PB w' bx p r ∧ PB w' bY q s

set_option maxRecDepth 100000 in
set_option maxHeartbeats 2000000 in
theorem all_walk (a x : Option Addr) (n cap m cx : Nat) (W V : Int) (f : Nat → Nat) (sb : Nat → Bool) (kd nn : Nat → Int) (w : World) (hR : Ws w a n cap f) (hS : Ss w x m cx sb kd nn) (hn : n * 16 ≤ 140737488355328) (hm : m ≤ 9223372036854775807) :
    Calls Try.prog 5 #[.slice a n cap, .int .i64 W, .int .i64 V, .slice x m cx] w fun e w' => e = .returned (.bool true) ∧ Below w.heap.size w w' := by
  have HR : Hid (Ws w a n cap f) := hR
  have HS : Hid (Ss w x m cx sb kd nn) := hS
  have HN : Hid (n * 16 ≤ 140737488355328) := hn
  clear hR hS hn
  go_enter Try.func5, Try.ntmps5
  go_upto_region 3 with (first | (go_at_call 13; have hq_ := RS1; clear hq_; refine (rnew_any a n cap f V _ (HR.out.later hb1)).mono ?_; rintro e w2 ⟨s, rfl, RS2, hb2⟩) | (go_at_call 13; refine (rnew_any a n cap f W _ HR.out).mono ?_; rintro e w1 ⟨r, rfl, RS1, hb1⟩))
  have HB2 : Hid (Below w.heap.size w w2) := below_call hb1 hb2
  obtain ⟨gl, cl, w3, hrun, hown, hb3⟩ := copy_run (HR.out.later HB2.out) HN.out _ rfl
  obtain ⟨hA, hgl, hcl⟩ := ar_of hown
  have HA : Hid (Ar w3 gl n f) := hA
  have HW : Hid (Ws w3 (some ⟨gl, 0, none⟩) n cl f) := hA.ws hcl HR.out.small
  have hglt := hA.lt
  clear hA hown
  go_upto_region 4 with (first | (at_builtin; refine wpList_append_known rfl _ _ 22 rfl _ _ rfl rfl _ _ hrun ?_))
  clear hrun
  go_upto_region 6 with (first | (go_at_call 6; have hq_ := PS1; clear hq_; refine (new_any _ n cl f V _ (HW.out.later hb4)).mono ?_; rintro e w5 ⟨q, rfl, PS2, hb5⟩) | (go_at_call 6; refine (new_any _ n cl f W _ HW.out).mono ?_; rintro e w4 ⟨p, rfl, PS1, hb4⟩))
  have HZ : Hid (w.heap.size ≤ w1.heap.size ∧ w1.heap.size ≤ w2.heap.size ∧ w2.heap.size ≤ gl ∧ gl < w3.heap.size ∧ w3.heap.size ≤ w4.heap.size ∧ w4.heap.size ≤ w5.heap.size) := ⟨hb1.size, hb2.size, hgl, hglt, hb4.size, hb5.size⟩
  have hz23 : w2.heap.size ≤ w3.heap.size := by omega
  have HT0 : Hid (St w w5 p r q s n f W V w.heap.size w1.heap.size w2.heap.size w3.heap.size w4.heap.size w5.heap.size) :=
    ⟨Half.of ((((RS1.later hb2).later hb3).later hb4).later hb5) (PS1.later hb5) (by have := hb2.size; omega), Half.of (((RS2.later hb3).later hb4).later hb5) PS2 (by have := hb4.size; omega), below_call (below_call (below_call HB2.out hb3) hb4) hb5, Nat.le_refl _⟩
  have HA0 : Hid (Ar w5 gl n f) := (HA.out.later hb4).later hb5
  clear RS1 RS2 PS1 PS2 hb1 hb2 hb3 hb4 hb5 HB2 HA HW hgl hglt hz23
  go_cut [76] (fun o w' => o = .bool false ∧ St w w' p r q s n f W V w.heap.size w1.heap.size w2.heap.size w3.heap.size w4.heap.size w5.heap.size ∧ Ar w' gl n f)
  case first =>
    rcases HT0.out.x.nil_iff with ⟨e1, g1, rfl⟩ | ⟨e1, rfl⟩
    · have e1b : (newE n W != 0) = false := by simp [e1]
      clear e1
      rcases HT0.out.y.nil_iff with ⟨e2, g2, rfl⟩ | ⟨e2, rfl⟩
      · have e2b : (newE n V != 0) = false := by simp [e2]
        clear e2
        go_wp2_with (first | (go_at_call 7; refine (known_any _).mono ?_; rintro e w6 ⟨rfl, hb6⟩))
        go_meet
        case rel => exact ⟨rfl, HT0.out.later hb6, HA0.out.later hb6⟩
      · have e2b : (newE n V != 0) = true := by simp [e2]
        clear e2
        go_wp2_with (first | (go_at_call 7; refine (known_any _).mono ?_; rintro e w6 ⟨rfl, hb6⟩))
        go_meet
        case rel => exact ⟨rfl, HT0.out.later hb6, HA0.out.later hb6⟩
    · have e1b : (newE n W != 0) = true := by simp [e1]
      clear e1
      rcases HT0.out.y.nil_iff with ⟨e2, g2, rfl⟩ | ⟨e2, rfl⟩
      · have e2b : (newE n V != 0) = false := by simp [e2]
        clear e2
        go_wp2_with (first | (go_at_call 7; refine (known_any _).mono ?_; rintro e w6 ⟨rfl, hb6⟩))
        go_meet
        case rel => exact ⟨rfl, HT0.out.later hb6, HA0.out.later hb6⟩
      · have e2b : (newE n V != 0) = true := by simp [e2]
        clear e2
        go_wp2_with (first | (go_at_call 7; refine (known_any _).mono ?_; rintro e w6 ⟨rfl, hb6⟩))
        go_meet
        case rel => exact ⟨rfl, HT0.out.later hb6, HA0.out.later hb6⟩
  case rest =>
    clear HT0 HA0
    obtain ⟨rfl, hT, hA⟩ := hcut
    have HT1 : Hid (St w wc p r q s n f W V w.heap.size w1.heap.size w2.heap.size w3.heap.size w4.heap.size w5.heap.size) := hT
    have HA1 : Hid (ArG wc gl 0 n f) := hA.fromG
    have hneq := neqW
    have hnn : (n : Int) ≤ 9223372036854775807 := by have := HN.out; omega
    clear hT hA
    go_wp2
    go_loopw [18] (A1Rel w p r q s n f W V w.heap.size w1.heap.size w2.heap.size w3.heap.size w4.heap.size w5.heap.size gl) (fun t _ => n - (intOf t).toNat)
    case atStart => exact ⟨0, rfl, Nat.zero_le _, HT1.out, HA1.out⟩
    case round =>
      clear HT1 HA1
      obtain ⟨i, rfl, hi, hT, hA⟩ := hrel
      have HT : Hid (St w wr p r q s n f W V w.heap.size w1.heap.size w2.heap.size w3.heap.size w4.heap.size w5.heap.size) := hT
      have HA : Hid (ArG wr gl i n f) := hA
      clear hT hA
      by_cases hlt : i < n
      · obtain ⟨b, o, rfl, hcell⟩ := (HR.out.later HT.out.below).plain (by omega)
        obtain ⟨x0, x1⟩ := hcell i hlt
        clear hcell
        obtain ⟨y0, y1⟩ := HA.out.at_ i (Nat.le_refl _) hlt
        have y2 := HA.out.fr
        have hself := wEq_self (hiI (f i)) (loI (f i))
        go_upto_region 11 with fail
        go_quiet (fail)
        go_wp2
        obtain ⟨q1, q2, q3, q4, q5, q6⟩ := HZ.out
        exact ⟨⟨i + 1, by go_num, by omega, (HT.out.drewN _).put ⟨by omega, by omega, by omega, by omega, by omega⟩ (by omega) q3 q4 _ _, (HA.out.drewN _).set _⟩, by simp [intOf]; omega⟩
      · obtain rfl : n = i := by omega
        clear HA
        have HO : Hid (Ord w.heap.size w1.heap.size w2.heap.size w3.heap.size w4.heap.size w5.heap.size) := by
          obtain ⟨q1, q2, q3, q4, q5, q6⟩ := HZ.out
          exact ⟨by omega, by omega, by omega, by omega, by omega⟩
        clear HZ
        go_wp2
        have HT2 : Hid (St w ((wr.alloc (Obj.cells #[.pointer p, .pointer r] 44)).alloc (Obj.cells #[.pointer q, .pointer s] 44)) p r q s n f W V w.heap.size w1.heap.size w2.heap.size w3.heap.size w4.heap.size w5.heap.size) := (HT.out.alloc _).alloc _
        have HX : Hid (PB ((wr.alloc (Obj.cells #[.pointer p, .pointer r] 44)).alloc (Obj.cells #[.pointer q, .pointer s] 44)) wr.heap.size p r) := (PB.new _ _ _).alloc _
        have HY : Hid (PB ((wr.alloc (Obj.cells #[.pointer p, .pointer r] 44)).alloc (Obj.cells #[.pointer q, .pointer s] 44)) (wr.heap.size + 1) q s) := by
          have := PB.new (wr.alloc (Obj.cells #[.pointer p, .pointer r] 44)) q s
          unfold Hid
          simpa using this
        have HG : Hid (w5.heap.size ≤ wr.heap.size) := HT.out.big
        clear HT
        generalize wr.heap.size = bx at *
        go_loopw [21] (A2Rel w p r q s n f W V w.heap.size w1.heap.size w2.heap.size w3.heap.size w4.heap.size w5.heap.size bx (bx + 1) m) (fun t _ => m - (intOf t).toNat)
        case atStart => exact ⟨0, rfl, Nat.zero_le _, HT2.out, HX.out, HY.out⟩
        case round =>
          clear HT2 HX HY
          obtain ⟨i, rfl, hi2, hT, hX, hY⟩ := hrel
          have HT : Hid (St w wr p r q s n f W V w.heap.size w1.heap.size w2.heap.size w3.heap.size w4.heap.size w5.heap.size) := hT
          have HX : Hid (PB wr bx p r) := hX
          have HY : Hid (PB wr (bx + 1) q s) := hY
          clear hT hX hY
          by_cases hlt2 : i < m
          · obtain ⟨b, o, rfl, hcell⟩ := (HS.out.later HT.out.below).plain (by omega)
            obtain ⟨y0, y1, y2⟩ := hcell i hlt2
            clear hcell
            have hbw : Hid (b < w.heap.size) := by
              obtain ⟨b', o', he, hc⟩ := HS.out.plain (by omega)
              simp only [Option.some.injEq, Addr.mk.injEq, and_true] at he
              obtain ⟨rfl, rfl⟩ := he
              exact World.block_lt_of_cell? _ _ (hc i hlt2).1
            have hii : (i : Int) + 1 ≤ 9223372036854775807 := by omega
            cases hsb : sb i with
            | true =>
              rw [hsb] at y0
              rcases HT.out.y.nil_iff with ⟨-, g2, rfl⟩ | ⟨-, rfl⟩
              · have HK : Hid (∀ w' : World, But (In w1.heap.size w2.heap.size w4.heap.size w5.heap.size) wr w' → (w'.cell? ⟨bx + 1, 0, none⟩ = some (.pointer (some ⟨g2, 0, none⟩)) ∧ w'.cell? ⟨bx + 1, 1, none⟩ = some (.pointer s) ∧ w'.cell? ⟨b, o + i * 3, none⟩ = some (.bool true) ∧ w'.cell? ⟨b, o + i * 3 + 1, none⟩ = some (.int .i64 (kd i)) ∧ w'.cell? ⟨b, o + i * 3 + 2, none⟩ = some (.int .i64 (nn i))) ∧ But (In w1.heap.size w2.heap.size w4.heap.size w5.heap.size) wr w') := by
                  intro w' hb
                  obtain ⟨k1, k2, k3, k4, k5⟩ := HO.out
                  have hg := HG.out
                  have hb0 := hbw.out
                  have n1 : ¬ In w1.heap.size w2.heap.size w4.heap.size w5.heap.size (bx + 1) := by unfold In; omega
                  have n2 : ¬ In w1.heap.size w2.heap.size w4.heap.size w5.heap.size b := by unfold In; omega
                  exact ⟨⟨cell_but hb HY.out.1 n1, cell_but hb HY.out.2 n1, cell_but hb y0 n2, cell_but hb y1 n2, cell_but hb y2 n2⟩, hb⟩
                go_upto_region 21 with fail
                go_region_held3 (fun w' => (w'.cell? ⟨bx + 1, 0, none⟩ = some (.pointer (some ⟨g2, 0, none⟩)) ∧ w'.cell? ⟨bx + 1, 1, none⟩ = some (.pointer s) ∧ w'.cell? ⟨b, o + i * 3, none⟩ = some (.bool true) ∧ w'.cell? ⟨b, o + i * 3 + 1, none⟩ = some (.int .i64 (kd i)) ∧ w'.cell? ⟨b, o + i * 3 + 2, none⟩ = some (.int .i64 (nn i))) ∧ But (In w1.heap.size w2.heap.size w4.heap.size w5.heap.size) wr w') (first | exact HK.out _ (But.of (Below.refl _ _).drew) | exact HK.out _ (But.trans (And.right (by assumption)) hb8)) (first | (go_at_call 14; refine (half_step _ _ n f V w1.heap.size w2.heap.size w4.heap.size w5.heap.size true (kd i) (nn i) _ (HT.out.y.later (Below.refl _ _).drew) (by simp)).mono ?_; rintro e w8 ⟨rfl, hH8, hb8⟩))
                go_wp2
                obtain ⟨k1, k2, k3, k4, k5⟩ := HO.out
                have hg := HG.out
                have n1 : ¬ In w1.heap.size w2.heap.size w4.heap.size w5.heap.size bx := by unfold In; omega
                have n2 : ¬ In w1.heap.size w2.heap.size w4.heap.size w5.heap.size (bx + 1) := by unfold In; omega
                have hbt : But (In w1.heap.size w2.heap.size w4.heap.size w5.heap.size) wr w8 := (But.of (Below.refl _ _).drew).trans hb8
                exact ⟨⟨i + 1, by go_num, by omega, HT.out.stepY HO.out (Nat.le_refl _) hH8 hbt, HX.out.but hbt n1, HY.out.but hbt n2⟩, by simp [intOf]; omega⟩
              · go_wp2
                exact ⟨⟨i + 1, by go_num, by omega, HT.out, HX.out, HY.out⟩, by simp [intOf]; omega⟩
            | false =>
              rw [hsb] at y0
              rcases HT.out.x.nil_iff with ⟨-, g1, rfl⟩ | ⟨-, rfl⟩
              · have HK : Hid (∀ w' : World, But (In w.heap.size w1.heap.size w3.heap.size w4.heap.size) wr w' → (w'.cell? ⟨bx, 0, none⟩ = some (.pointer (some ⟨g1, 0, none⟩)) ∧ w'.cell? ⟨bx, 1, none⟩ = some (.pointer r) ∧ w'.cell? ⟨b, o + i * 3, none⟩ = some (.bool false) ∧ w'.cell? ⟨b, o + i * 3 + 1, none⟩ = some (.int .i64 (kd i)) ∧ w'.cell? ⟨b, o + i * 3 + 2, none⟩ = some (.int .i64 (nn i))) ∧ But (In w.heap.size w1.heap.size w3.heap.size w4.heap.size) wr w') := by
                  intro w' hb
                  obtain ⟨k1, k2, k3, k4, k5⟩ := HO.out
                  have hg := HG.out
                  have hb0 := hbw.out
                  have n1 : ¬ In w.heap.size w1.heap.size w3.heap.size w4.heap.size bx := by unfold In; omega
                  have n2 : ¬ In w.heap.size w1.heap.size w3.heap.size w4.heap.size b := by unfold In; omega
                  exact ⟨⟨cell_but hb HX.out.1 n1, cell_but hb HX.out.2 n1, cell_but hb y0 n2, cell_but hb y1 n2, cell_but hb y2 n2⟩, hb⟩
                go_upto_region 23 with fail
                go_region_held3 (fun w' => (w'.cell? ⟨bx, 0, none⟩ = some (.pointer (some ⟨g1, 0, none⟩)) ∧ w'.cell? ⟨bx, 1, none⟩ = some (.pointer r) ∧ w'.cell? ⟨b, o + i * 3, none⟩ = some (.bool false) ∧ w'.cell? ⟨b, o + i * 3 + 1, none⟩ = some (.int .i64 (kd i)) ∧ w'.cell? ⟨b, o + i * 3 + 2, none⟩ = some (.int .i64 (nn i))) ∧ But (In w.heap.size w1.heap.size w3.heap.size w4.heap.size) wr w') (first | exact HK.out _ (But.of (Below.refl _ _).drew) | exact HK.out _ (But.trans (And.right (by assumption)) hb8)) (first | (go_at_call 14; refine (half_step _ _ n f W w.heap.size w1.heap.size w3.heap.size w4.heap.size false (kd i) (nn i) _ (HT.out.x.later (Below.refl _ _).drew) (by simp)).mono ?_; rintro e w8 ⟨rfl, hH8, hb8⟩))
                go_wp2
                obtain ⟨k1, k2, k3, k4, k5⟩ := HO.out
                have hg := HG.out
                have n1 : ¬ In w.heap.size w1.heap.size w3.heap.size w4.heap.size bx := by unfold In; omega
                have n2 : ¬ In w.heap.size w1.heap.size w3.heap.size w4.heap.size (bx + 1) := by unfold In; omega
                have hbt : But (In w.heap.size w1.heap.size w3.heap.size w4.heap.size) wr w8 := (But.of (Below.refl _ _).drew).trans hb8
                exact ⟨⟨i + 1, by go_num, by omega, HT.out.stepX HO.out (Nat.le_refl _) hH8 hbt, HX.out.but hbt n1, HY.out.but hbt n2⟩, by simp [intOf]; omega⟩
              · go_wp2
                exact ⟨⟨i + 1, by go_num, by omega, HT.out, HX.out, HY.out⟩, by simp [intOf]; omega⟩
          · obtain rfl : m = i := by omega
            have HT3 : Hid (St w (wr.alloc (Obj.cells #[.bool false, .int .i64 1, .int .i64 0] 46)) p r q s n f W V w.heap.size w1.heap.size w2.heap.size w3.heap.size w4.heap.size w5.heap.size) := HT.out.alloc _
            obtain ⟨x0, x1⟩ := HX.out.alloc (Obj.cells #[.bool false, .int .i64 1, .int .i64 0] 46)
            have HY3 : Hid (PB (wr.alloc (Obj.cells #[.bool false, .int .i64 1, .int .i64 0] 46)) (bx + 1) q s) := HY.out.alloc _
            have HL : Hid (w5.heap.size ≤ wr.heap.size) := HT.out.big
            clear HX HY HS
            have HF : Hid (∀ w' : World, But (In w.heap.size w1.heap.size w3.heap.size w4.heap.size) (wr.alloc (Obj.cells #[.bool false, .int .i64 1, .int .i64 0] 46)) w' → (w'.cell? ⟨bx + 1, 0, none⟩ = some (.pointer q) ∧ w'.cell? ⟨bx + 1, 1, none⟩ = some (.pointer s) ∧ w'.cell? ⟨wr.heap.size, 0, none⟩ = some (.bool false) ∧ w'.cell? ⟨wr.heap.size, 1, none⟩ = some (.int .i64 1) ∧ w'.cell? ⟨wr.heap.size, 2, none⟩ = some (.int .i64 0))) := by
              intro w' hb
              obtain ⟨k1, k2, k3, k4, k5⟩ := HO.out
              have hg := HG.out
              have hl := HL.out
              have n1 : ¬ In w.heap.size w1.heap.size w3.heap.size w4.heap.size (bx + 1) := by unfold In; omega
              have n2 : ¬ In w.heap.size w1.heap.size w3.heap.size w4.heap.size wr.heap.size := by unfold In; omega
              exact ⟨cell_but hb HY3.out.1 n1, cell_but hb HY3.out.2 n1, cell_but hb (by simp [go_sem]) n2, cell_but hb (by simp [go_sem]) n2, cell_but hb (by simp [go_sem]) n2⟩
            rcases HT.out.x.nil_iff with ⟨-, g1, rfl⟩ | ⟨-, rfl⟩
            · rcases HT.out.y.nil_iff with ⟨-, g2, rfl⟩ | ⟨-, rfl⟩
              · go_wp2_with (first | (go_at_call 14; have hq_ := hH8; clear hq_; refine (half_step _ _ n f V w1.heap.size w2.heap.size w4.heap.size w5.heap.size false 1 0 _ (HT3.out.stepX HO.out (Nat.le_refl _) hH8 hb8).y (by simp)).mono ?_; rintro e w9 ⟨rfl, hH9, hb9⟩) | (go_at_call 14; refine (half_step _ _ n f W w.heap.size w1.heap.size w3.heap.size w4.heap.size false 1 0 _ HT3.out.x (by simp)).mono ?_; rintro e w8 ⟨rfl, hH8, hb8⟩; obtain ⟨z0, z1, z2, z3, z4⟩ := HF.out w8 hb8))
                go_ret
                exact ⟨rfl, ((HT3.out.stepX HO.out (Nat.le_refl _) hH8 hb8).stepY HO.out (Nat.le_refl _) hH9 hb9).below⟩
              · go_wp2_with (first | (go_at_call 14; refine (half_step _ _ n f W w.heap.size w1.heap.size w3.heap.size w4.heap.size false 1 0 _ HT3.out.x (by simp)).mono ?_; rintro e w8 ⟨rfl, hH8, hb8⟩; obtain ⟨z0, z1, z2, z3, z4⟩ := HF.out w8 hb8))
                go_ret
                exact ⟨rfl, (HT3.out.stepX HO.out (Nat.le_refl _) hH8 hb8).below⟩
            · rcases HT.out.y.nil_iff with ⟨-, g2, rfl⟩ | ⟨-, rfl⟩
              · obtain ⟨z0, z1, z2, z3, z4⟩ := HF.out _ (But.refl _ _)
                go_wp2_with (first | (go_at_call 14; refine (half_step _ _ n f V w1.heap.size w2.heap.size w4.heap.size w5.heap.size false 1 0 _ HT3.out.y (by simp)).mono ?_; rintro e w9 ⟨rfl, hH9, hb9⟩))
                go_ret
                exact ⟨rfl, (HT3.out.stepY HO.out (Nat.le_refl _) hH9 hb9).below⟩
              · go_wp2
                go_ret
                exact ⟨rfl, HT3.out.below⟩
end Go.Proofs.Ytfibidfkhfkfpaa
