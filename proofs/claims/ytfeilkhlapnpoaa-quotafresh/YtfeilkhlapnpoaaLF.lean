import Derived.Test.YtfeilkhlapnpoaaF1
import Derived.Deep.DeepCutAuto
namespace Go.Proofs.Ytfeilkhlapnpoaa
open Go.RowKit Go.Maps
set_option linter.unusedVariables false

/-- Both quotas, the program's and the document's, with the same counted. -/
structure Both (w : World) (g b base r : Nat) (e a : Int) (L : List Int) (pa : Option Addr) (cap : Nat) : Prop where
  q : Qu w g b e a L
  rf : Rf w base r e a pa cap L
def FrRel (w : World) (g b base r n : Nat) (t : Value) (w' : World) : Prop :=
  ∃ (i : Nat) (L : List Int) (pa : Option Addr) (cap : Nat), i ≤ n ∧ t = .int .i64 (i : Int) ∧ Both w' g b base r 9 200 L pa cap ∧ Below w.heap.size w w'
/-- Add, of both. -/
theorem Both.add1 {w w1 : World} {g b base r : Nat} {e a : Int} {L M : List Int} {pa : Option Addr} {cap : Nat} (h : Both w g b base r e a L pa cap) (hg : g < base) (hb : b < base) (hq : Qu w1 g b e a M) (hB : But (fun k => k = b) w w1) : Qu w1 g b e a M ∧ Rf w1 base r e a pa cap L :=
  ⟨hq, h.rf.but hB (by have := h.rf.lo; omega) (fun k hk => by have := h.rf.own.blk k hk; omega)⟩
theorem Both.add2 {w1 w2 : World} {g b base r : Nat} {e a : Int} {L M : List Int} {pa pb : Option Addr} {cap cb : Nat} (hg : g < base) (hb : b < base) (hq : Qu w1 g b e a M) (hr : Rf w1 base r e a pa cap L) (hr2 : Rf w2 base r e a pb cb M) (hd : Rd w1 w2 r pa pb) : Both w2 g b base r e a M pb cb := by
  have hn : ∀ k, k < base → ¬ (k = r ∨ Blk pa k) := fun k hk h => by
    rcases h with h | h
    · have := hr.lo; omega
    · have := hr.own.blk k h; omega
  exact ⟨hq.but hd.but (hn g hg) (hn b hb), hr2⟩
/-- How far the marks have come. -/
def MkRel (W : World) (bA bB : Nat) (L : List Int) (pA pB : Option Addr) (cA cB : Nat) (t : Value) (w' : World) : Prop :=
  ∃ i : Nat, i ≤ L.length ∧ t = .int .i64 (i : Int) ∧ Own w' bA 3 pA L.length cA (ints (mk i 1099511627776 L)) ∧ Own w' bB 3 pB L.length cB (ints (mk i 2199023255552 L)) ∧ But (fun k => Blk pA k ∨ Blk pB k) W w'
set_option maxRecDepth 100000 in
set_option maxHeartbeats 4000000 in
theorem fresh_law (s : Option Addr) (n cap : Nat) (f : Nat → Sp) (w : World) (hS : Ss w s n f) (hn : n ≤ 9223372036854775807) :
    Calls Try.prog 4 #[.slice s n cap] w fun r w' => r = .returned (.bool true) ∧ Below w.heap.size w w' := by
  have HS := hid hS
  clear hS
  go_enter Try.func4, Try.ntmps4
  go_upto_region 2 with (first | (go_at_call 7; refine (new_ok 9 200 w (by unfold okB; omega)).mono ?_; rintro e w1 ⟨g, b, rfl, hq1, hg1, hbb, hbl1⟩; have HQ1 := hid hq1; have HB1 := hid hbl1; clear hq1 hbl1 hg1))
  go_upto_region 3 with (first | (go_at_call 13; refine (rnew_ok 9 200 w1 (by unfold okB; omega)).mono ?_; rintro e w2 ⟨r, rfl, hr2, hbl2⟩; have HR2 := hid hr2; have HB2 := hid hbl2; clear hr2 hbl2))
  go_upto_region 6 with (first | (go_at_call 6; refine (head_any w2).mono ?_; rintro e w3 ⟨rfl, hb3⟩; have HB3 := hid hb3; clear hb3))
  obtain ⟨base, hbase⟩ : ∃ base, base = w1.heap.size := ⟨_, rfl⟩
  have hgl : Hid (g < base) := by have := HQ1.out.glt; unfold Hid; omega
  have hbl : Hid (b < base) := by have := HQ1.out.blt; unfold Hid; omega
  have hwb : Hid (w.heap.size ≤ b) := hbb
  have hwbase : Hid (w.heap.size ≤ base) := by have := HB1.out.size; unfold Hid; omega
  have H0 : Hid (Both w3 g b base r 9 200 [] none 0 ∧ Below w.heap.size w w3) := by
    rw [hbase]
    exact ⟨⟨(HQ1.out.later HB2.out).later HB3.out, HR2.out.later HB3.out⟩, below_call (below_call HB1.out HB2.out) HB3.out⟩
  clear HQ1 HB1 HR2 HB2 HB3 hbb hbase
  go_loopw [7] (FrRel w g b base r n) (fun t _ => n - (intOf t).toNat)
  case atStart => exact ⟨0, [], none, 0, Nat.zero_le _, rfl, H0.out.1, H0.out.2⟩
  case round =>
    clear H0
    obtain ⟨i, L, pa, pc, hi, rfl, hBo, hB⟩ := hrel
    by_cases hlt : i < n
    · obtain ⟨sb, so, rfl, hc⟩ := HS.out.at_ (by omega)
      have hok := HS.out.ok i hlt
      have s2 := (hc i hlt).c2
      have t2 := cell_later hB s2
      clear hc
      obtain ⟨x, hx⟩ : ∃ x, x = (f i).x := ⟨_, rfl⟩
      rw [← hx] at hok t2 s2
      clear hx
      have had := hid (add_any hBo.q x hok)
      have HBo := hid hBo
      have HB := hid hB
      clear hBo hB
      go_upto_region 9 with (first | (go_at_call 11; refine had.out.mono ?_; rintro e w4 ⟨rfl, hq4, hb4⟩; have HQ4 := hid hq4; have HB4 := hid hb4; clear hq4 hb4))
      have hBl4 := hid (But.below HB.out HB4.out (fun k hk => by have := hwb.out; omega))
      have u4' := cell_later hBl4.out s2
      have hR4 := hid (HBo.out.add1 hgl.out hbl.out HQ4.out HB4.out)
      have hra := hid (radd_any hR4.out.2 x)
      clear had t2 s2
      go_wp2_with (first | (go_at_call 14; refine hra.out.mono ?_; rintro e w5 ⟨pb, cb, rfl, hr5, hd5⟩; have HN : Hid (FrRel w g b base r n (.int .i64 ((i : Int) + 1)) w5) := ⟨i + 1, _, pb, cb, by omega, rfl, Both.add2 hgl.out hbl.out HQ4.out hR4.out.2 hr5 hd5, But.below hBl4.out hd5.but (fun k hk => by have h1 := hR4.out.2.lo; have h2 := hwbase.out; rcases hk with h | h; omega; have := hR4.out.2.own.blk k h; omega)⟩; clear hr5 hd5))
      exact ⟨HN.out, by simp [intOf]; omega⟩
    · obtain rfl : i = n := by omega
      have HBo := hid hBo
      have HB := hid hB
      clear hBo hB
      obtain ⟨w0, hw0⟩ : ∃ w0, w0 = wr := ⟨_, rfl⟩
      subst hw0
      obtain ⟨O, hO⟩ : ∃ O, O = ob L := ⟨_, rfl⟩
      have hrob := hid (robjects_any HBo.out.rf)
      have hob := hid (fun (U : World) (hU : Below w0.heap.size w0 U) => objects_any (HBo.out.q.later hU))
      have hall := hid (fun (U : World) (hU : But (fun k => ¬ k < w0.heap.size) w0 U) => HBo.out.q.but hU (fun h => h HBo.out.q.glt) (fun h => h HBo.out.q.blt))
      have hrr := hid (fun (U : World) (hU : But (fun k => ¬ k < w0.heap.size) w0 U) => cell_but hU HBo.out.rf.c2.1 (fun h => h HBo.out.rf.rlt))
      have hol : O.length ≤ 256 := by rw [hO]; have h1 := ob_len L; have h2 := HBo.out.q.sz.len; omega
      have HOB := hid hO
      rw [← hO] at hrob hob
      clear hO
      go_upto_region 11 with (first | (go_at_call 15; refine hrob.out.mono ?_; rintro e w4 ⟨pw, cw, rfl, ho4, hb4⟩; have HW := hid ho4; have HB4 := hid hb4; clear ho4 hb4))
      go_upto_region 12 with (first
        | (go_at_call 12; have hc := hob.out _ HB5.out; refine hc.mono ?_; clear hc; rintro e w6 ⟨pB, cB, rfl, ho6, hb6⟩; have HOB6 := hid ho6; have HB6 := hid hb6; clear ho6 hb6)
        | (go_at_call 12; have hc := hob.out _ HB4.out; refine hc.mono ?_; clear hc; rintro e w5 ⟨pA, cA, rfl, ho5, hb5⟩; have HOA5 := hid ho5; have HB45 := hid hb5; have HB5 := hid (below_call HB4.out hb5); clear ho5 hb5))
      have HW6 := hid ((HW.out.later HB45.out).later HB6.out)
      have HA6 := hid (HOA5.out.later HB6.out)
      have hs1 := hid (same_true HA6.out.read HW6.out.read (by omega))
      have hs2 := hid (fun (U : World) (hU : Below w6.heap.size w6 U) => same_true (HOB6.out.later hU).read (HW6.out.later hU).read (by omega))
      go_upto_region 15 with (first
        | (go_at_call 16; have hc := hs2.out _ HB7.out; refine hc.mono ?_; clear hc; rintro e w8 ⟨rfl, hb8⟩; have HB8 := hid (below_call HB7.out hb8); clear hb8)
        | (go_at_call 16; have hc := hs1.out; refine hc.mono ?_; clear hc; rintro e w7 ⟨rfl, hb7⟩; have HB7 := hid hb7; clear hb7))
      have HW8 := hid (HW6.out.later HB8.out)
      have HA8 := hid (HA6.out.later HB8.out)
      have HBB8 := hid (HOB6.out.later HB8.out)
      have HBL8 := hid (below_call (below_call HB5.out HB6.out) HB8.out)
      have hab : Hid (∀ k, Blk pA k → ¬ Blk pB k) := fun k h1 h2 => by have h3 := HOA5.out.lt k h1; have h4 := HOB6.out.blk k h2; omega
      have hA4 : Hid (∀ k, Blk pA k → w4.heap.size ≤ k) := fun k h1 => HOA5.out.blk k h1
      have hB4' : Hid (∀ k, Blk pB k → w4.heap.size ≤ k) := fun k h1 => Nat.le_trans HB45.out.size (HOB6.out.blk k h1)
      have hpw : Hid (∀ k, Blk pw k → k < w4.heap.size) := fun k h1 => HW.out.lt k h1
      have h44 : Hid (w0.heap.size ≤ w4.heap.size) := HB4.out.size
      have h48 : Hid (w4.heap.size ≤ w8.heap.size ∧ w5.heap.size ≤ w8.heap.size) := ⟨Nat.le_trans HB45.out.size (Nat.le_trans HB6.out.size HB8.out.size), Nat.le_trans HB6.out.size HB8.out.size⟩
      clear hs1 hs2 HW HW6 HA6 HOA5 HOB6 HB7 HB45 HB6 hob hrob HB4 HB5
      go_loopw [11] (MkRel w8 w4.heap.size w5.heap.size O pA pB cA cB) (fun t _ => O.length - (intOf t).toNat)
      case atStart => exact ⟨0, Nat.zero_le _, rfl, by rw [mk_zero]; exact HA8.out, by rw [mk_zero]; exact HBB8.out, But.refl _ _⟩
      case round =>
        clear HA8 HBB8
        obtain ⟨k, hk, rfl, hOA, hOB, hBT⟩ := hrel
        by_cases hkl : k < O.length
        · have hd : decide ((k : Int) < (O.length : Int)) = true := decide_eq_true (by omega)
          obtain ⟨gA, rfl⟩ := own_some hOA (by omega)
          obtain ⟨gB, rfl⟩ := own_some hOB (by omega)
          have hgg : gA ≠ gB := fun e => hab.out gA ⟨_, rfl, rfl⟩ ⟨_, rfl, e.symm⟩
          obtain ⟨_, e1, y1⟩ := hOA.lies rfl (ints_get _ k (by rw [mk_len _ _ _ hk]; exact hkl))
          cases e1
          obtain ⟨_, e2, y2⟩ := hOB.lies rfl (ints_get _ k (by rw [mk_len _ _ _ hk]; exact hkl))
          cases e2
          have y3 := y2.other (q := ⟨gA, k, none⟩) (u := .int .i64 1099511627776) (fun e => hgg (congrArg Addr.block e))
          obtain ⟨a1, f1⟩ := y1
          obtain ⟨a2, f2⟩ := y3
          have HN : Hid (MkRel w8 w4.heap.size w5.heap.size O (some ⟨gA, 0, none⟩) (some ⟨gB, 0, none⟩) cA cB (.int .i64 ((k : Int) + 1)) ((wr.setCell ⟨gA, k, none⟩ (.int .i64 1099511627776)).setCell ⟨gB, k, none⟩ (.int .i64 2199023255552))) := by
            refine ⟨k + 1, by omega, rfl, ?_, ?_, (hBT.setCell (p := ⟨gA, k, none⟩) (.inl ⟨_, rfl, rfl⟩) _).setCell (p := ⟨gB, k, none⟩) (.inr ⟨_, rfl, rfl⟩) _⟩
            · rw [← mk_step _ _ _ hkl]
              exact (hOA.set1 k _).but ((But.refl (fun j => j = gB) _).setCell (p := ⟨gB, k, none⟩) rfl _) (fun j hj e => by obtain ⟨_, e1, e2⟩ := hj; cases e1; exact hgg (e2.trans e))
            · rw [← mk_step _ _ _ hkl]
              exact (hOB.but ((But.refl (fun j => j = gA) _).setCell (p := ⟨gA, k, none⟩) rfl _) (fun j hj e => by obtain ⟨_, e1, e2⟩ := hj; cases e1; exact hgg (e.symm.trans e2.symm))).set1 k _
          clear hOA hOB hBT y2
          go_wp2
          exact ⟨HN.out, by simp [intOf]; omega⟩
        · obtain rfl : k = O.length := by omega
          have hd : decide ((O.length : Int) < (O.length : Int)) = false := by simp
          rw [mk_all] at hOA hOB
          have hsz := hBT.size
          obtain ⟨pc', cc', w9, pd, cd, w10, run1, run2, hRc, hRd, hRa, hRb, hB10⟩ := two_appends 1099511627776 2199023255552 hOA hOB hab.out (Nat.le_trans h48.out.1 hsz) (Nat.le_trans h48.out.2 hsz) (by omega)
          rw [← List.replicate_succ'] at hRc hRd
          have hBT2 := hBT.trans hB10
          have hlo : But (fun k => ¬ k < w0.heap.size) w0 w10 := (But.of HBL8.out).trans (hBT2.mono (fun k hk => by
            have := h44.out
            rcases hk with h | h
            · have := hA4.out k h; omega
            · have := hB4'.out k h; omega))
          have HQe := hid (hall.out _ hlo)
          have d2 := hrr.out _ hlo
          have HWe := hid (HW8.out.but hBT2 (fun k hk h => by
            have h1 := hpw.out k hk
            rcases h with h | h
            · have := hA4.out k h; omega
            · have := hB4'.out k h; omega))
          have HBe := hid (But.below HB.out hlo (fun k hk => by have := HB.out.size; omega))
          have HRc := hid hRc
          have HRd := hid hRd
          have HRa := hid hRa
          have HRb := hid hRb
          have R1 := hid run1
          have R2 := hid run2
          clear hOA hOB hBT hRc hRd hRa hRb hB10 run1 run2 hBT2 hlo hall hrr HW8 HBL8 hpw h44 h48 hab hA4 hB4' HB HBo HS
          go_upto_region 20 with (first
            | (at_builtin; refine wpList_append_known rfl _ _ 34 rfl _ _ rfl rfl _ w9 R1.out ?_; clear R1)
            | (at_builtin; refine wpList_append_known rfl _ _ 34 rfl _ _ rfl rfl _ w10 R2.out ?_; clear R2))
          go_upto_region 21 with fail
          go_loopw [14] (fun t w' => ∃ k : Nat, k ≤ O.length + 1 ∧ t = .int .i64 (k : Int) ∧ w10 = w') (fun t _ => O.length + 1 - (intOf t).toNat)
          case atStart => exact ⟨0, Nat.zero_le _, rfl, rfl⟩
          case round =>
            obtain ⟨k, hk, rfl, rfl⟩ := hrel
            by_cases hkl : k < O.length + 1
            · have hd : decide ((k : Int) < (O.length : Int) + 1) = true := decide_eq_true (by omega)
              obtain ⟨cb, co, rfl, h1⟩ := HRc.out.plain (by omega)
              obtain ⟨db, do_, rfl, h2⟩ := HRd.out.plain (by omega)
              have y1 := h1 k _ (ints_get _ k (by simp; omega))
              have y2 := h2 k _ (ints_get _ k (by simp; omega))
              rw [List.getElem_replicate] at y1 y2
              clear h1 h2
              by_cases hko : k < O.length
              · have hd2 : decide ((k : Int) < (O.length : Int)) = true := decide_eq_true (by omega)
                obtain ⟨ab, ao, rfl, h3⟩ := (HRa.out (by omega)).plain (by omega)
                obtain ⟨bb, bo, rfl, h4⟩ := (HRb.out (by omega)).plain (by omega)
                have y3 := h3 k _ (ints_get _ k (by simpa using hko))
                have y4 := h4 k _ (ints_get _ k (by simpa using hko))
                rw [List.getElem_replicate] at y3 y4
                clear h3 h4
                go_wp2
                exact ⟨⟨k + 1, by omega, rfl, trivial⟩, by simp [intOf]; omega⟩
              · have hd2 : decide ((k : Int) < (O.length : Int)) = false := decide_eq_false (by omega)
                go_wp2
                exact ⟨⟨k + 1, by omega, rfl, trivial⟩, by simp [intOf]; omega⟩
            · have hd : decide ((k : Int) < (O.length : Int) + 1) = false := decide_eq_false (by omega)
              have hob := hid (fun (U : World) (hU : Below w10.heap.size w10 U) => objects_any (HQe.out.later hU))
              have hal := hid (fun (U : World) (hU : Below w10.heap.size w10 U) => all_any (HQe.out.later hU))
              rw [← HOB.out] at hob
              have hsm := hid (fun (U V : World) (p : Option Addr) (c : Nat) (hU : Below w10.heap.size w10 U) (hO : Own U V.heap.size 3 p O.length c (ints O)) => same_true hO.read (HWe.out.later hU).read (by omega))
              have hC : Hid (∀ U : World, Below w10.heap.size w10 U → (U.cell? ⟨r, 2, none⟩ = some (.slice pa L.length pc)) ∧ Below w10.heap.size w10 U) := fun U hU => ⟨cell_later hU d2, hU⟩
              clear HRa HRb HRc HRd hkl
              go_upto_region 25 with fail
              go_region_held3 (fun U => (U.cell? ⟨r, 2, none⟩ = some (.slice pa L.length pc)) ∧ Below w10.heap.size w10 U) (first | exact hC.out _ HB13.out | exact hC.out _ HB12.out | exact hC.out _ HB11.out | exact hC.out _ (Below.refl _ _).drew) (first
                | (go_at_call 12; refine (hob.out _ (Below.refl _ _).drew).mono ?_; rintro e w11 ⟨p11, c11, rfl, ho11, hb11⟩; have HO11 := hid ho11; have HB11 := hid (below_call (Below.refl w10.heap.size w10).drew hb11); clear ho11 hb11)
                | (go_at_call 16; refine (hsm.out _ _ _ _ HB11.out HO11.out).mono ?_; rintro e w12 ⟨rfl, hb12⟩; have HB12 := hid (below_call HB11.out hb12); clear hb12)
                | (go_at_call 9; refine (hal.out _ HB12.out).mono ?_; rintro e w13 ⟨rfl, hb13⟩; have HB13 := hid (below_call HB12.out hb13); clear hb13))
              go_wp2
              go_ret
              exact ⟨by first | rfl | simp, below_call HBe.out HB13.out⟩
end Go.Proofs.Ytfeilkhlapnpoaa
