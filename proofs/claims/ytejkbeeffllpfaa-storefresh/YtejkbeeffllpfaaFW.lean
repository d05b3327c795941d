import Derived.Test.YtejkbeeffllpfaaFA
import Derived.Test.YtejkbeeffllpfaaFC
import Derived.Test.YtejkbeeffllpfaaFD
import Derived.Test.YtejkbeeffllpfaaFG
import Derived.Test.YtejkbeeffllpfaaFK
import Derived.Test.YtejkbeeffllpfaaFM
import Derived.Test.YtejkbeeffllpfaaKD
namespace Go.Proofs.Ytejkbeeffllpfaa
open Go.RowKit
set_option linter.unusedVariables false
set_option linter.unusedSimpArgs false

theorem Bu.start {wp w : World} {aI : Option Addr} {L cI : Nat} {ids : List Int} (B : Below wp.heap.size wp w) (O : Own w wp.heap.size 3 aI L cI (ints ids)) : ∃ col, Bu wp w col aI L cI ids none 0 0 (fun _ => (none, 0, 0)) (fun _ => []) none 0 0 (fun _ => (none, 0, 0)) (fun _ => []) := by
  have hc : Cb wp wp.heap.size (fun _ => 0) := ⟨fun k hk => absurd rfl hk, fun k hk => absurd rfl hk, Nat.le_refl _⟩
  exact ⟨Ytejkbeeffllpfaa.paint wp w 1 (fun _ => 0), B, hc.paint B.size 1, O, fun k hk => paint_new (O.blk k hk) (O.lt k hk), Sf.nil _ _ _ _ _ _ _ _ _, Sf.nil _ _ _ _ _ _ _ _ _⟩
theorem rows_len {wp w : World} {col : Nat → Nat} {aI : Option Addr} {L cI : Nat} {ids : List Int} {aR : Option Addr} {nR cR : Nat} {T : Nat → Sl} {V : Nat → List Value} {aL : Option Addr} {nL cL : Nat} {T2 : Nat → Sl} {V2 : Nat → List Value} (h : Bu wp w col aI L cI ids aR nR cR T V aL nL cL T2 V2) {Os : List Ob} {off n : Int} {K : Nat} (hV : ∀ k, k < nR → V k = Dv Os off n K k) : ∀ i, i < nR → (T i).2.1 ≤ 4096 := fun i hi => by
  have h1 := (h.rows.inn i hi).len
  rw [hV i hi] at h1
  unfold Dv at h1
  rw [u8s_length] at h1
  have h2 := rdL_le Os ((Os.map Ob.id).getD (i % K) 0) off n
  omega
theorem lists_len {wp w : World} {col : Nat → Nat} {aI : Option Addr} {L cI : Nat} {ids : List Int} {aR : Option Addr} {nR cR : Nat} {T : Nat → Sl} {V : Nat → List Value} {aL : Option Addr} {nL cL : Nat} {T2 : Nat → Sl} {V2 : Nat → List Value} (h : Bu wp w col aI L cI ids aR nR cR T V aL nL cL T2 V2) {X : List Int} (hX : X.length ≤ 64) (hV : ∀ k, k < nL → V2 k = ints X) : ∀ i, i < nL → (T2 i).2.1 ≤ 4096 := fun i hi => by
  have h1 := (h.lists.inn i hi).len
  rw [hV i hi, ints_length] at h1
  omega
set_option maxRecDepth 1000000 in
set_option maxHeartbeats 8000000 in
theorem fresh_walk (x : Option Addr) (k cap : Nat) (f : Nat → Opx) (off n : Int) (w : World) (hS : Scr w x k cap f) (hk : k ≤ 9223372036854775807) (ho : i64ok off) :
    Calls Try.prog 4 #[.slice x k cap, .int .i64 off, .int .i64 n] w fun e w' => e = .returned (.bool true) ∧ Below w.heap.size w w' := by
  have HS := hid hS
  clear hS
  go_enter Try.func4, Try.ntmps4
  go_upto_region 3 with (first | (go_at_call 7; refine (head_any _).mono ?_; rintro e w1 ⟨rfl, B1⟩))
  have HB1 := hid B1
  have hs1 := B1.size
  clear B1
  go_upto_region 4 with (first | (go_at_call 15; refine (begins_ok w.heap.size 4 64 _ (by omega) (by omega) hs1).mono ?_; rintro e w2 ⟨z, r, M, rfl, P2, hM2, B2⟩))
  have HP2 := hid P2
  have HM2 := hid hM2
  have HB2 := hid B2
  clear P2 hM2 B2
  obtain ⟨W2, hW2⟩ : ∃ W2, W2 = w2.alloc (.cells #[.pointer (some ⟨z.s, 0, none⟩), .pointer (some ⟨r, 0, none⟩)] 46) := ⟨_, rfl⟩
  have a0 : W2.cell? ⟨w2.heap.size, 0, none⟩ = some (.pointer (some ⟨z.s, 0, none⟩)) := by rw [hW2]; exact (lies_new w2 #[.pointer (some ⟨z.s, 0, none⟩), .pointer (some ⟨r, 0, none⟩)] 46 0 _ rfl).1
  have a1 : W2.cell? ⟨w2.heap.size, 1, none⟩ = some (.pointer (some ⟨r, 0, none⟩)) := by rw [hW2]; exact (lies_new w2 #[.pointer (some ⟨z.s, 0, none⟩), .pointer (some ⟨r, 0, none⟩)] 46 1 _ rfl).1
  have b2 : Below w2.heap.size w2 W2 := by rw [hW2]; exact below1 _ _
  have hsz2 : W2.heap.size = w2.heap.size + 1 := by rw [hW2]; simp
  have HO : Hid (One w z r w2.heap.size M W2) := hid ⟨HP2.out.later b2, fun e => by have := HM2.out _ e; omega, by omega, a0, a1, below_call (below_call HB1.out HB2.out) b2⟩
  rw [← hW2]
  obtain ⟨bx, hbx⟩ : ∃ bx, bx = w2.heap.size := ⟨_, rfl⟩
  rw [← hbx] at HO a0 a1 ⊢
  clear hW2 b2 hsz2 hbx HP2 HM2 HB2 HB1 hs1
  go_upto_region 7 with fail
  clear a0 a1
  refine fr_b0 w z r bx M x k cap f W2 HS.out hk HO.out (fun c a d v w h => by cases d <;> exact h) ?_
  rintro M' wp hO
  intros
  obtain ⟨nx, Os, G, a, cap2, col0, hD, hM, hMb⟩ := hO.a
  have HPR := hid hO.a
  have HBW := hid hO.bel
  have a0 := hO.a0
  have a1 := hO.a1
  have HA0 := hid a0
  have HA1 := hid a1
  have HD := hid hD
  have hrm := hD.q.rm
  obtain ⟨L, hL⟩ : ∃ L, L = (vw Os).length := ⟨_, rfl⟩
  have HL : Hid (L = Os.length) := hid (by rw [hL, vw_length])
  have HLV := hid hL.symm
  have HID := hid (vw_ids Os)
  have hL64 : L ≤ 64 := by omega
  clear hD hM hMb hO HO HS hL hrm
  go_upto_region 16 with (first | (go_at_call 17; refine (rids_any w.heap.size r z.room z.n nx (vw Os) G a cap2 col0 _ HD.out.q).mono ?_; rintro e w3 ⟨aI, cI, rfl, O3, B3⟩; rw [HLV.out]; rw [HLV.out, HID.out] at O3))
  obtain ⟨col, hB⟩ := Bu.start B3 O3
  have HB := hid hB
  clear O3 B3 hB a0 a1
  refine fr_b2 w.heap.size z r nx Os G a cap2 col0 bx off n L wp col aI cI _ _ _ _ w3 HD.out HA0.out HA1.out ho HL.out hL64 HB.out (fun c a d v w h => by cases d <;> exact h) ?_
  rintro col4 aR cR T V aL cL T2 V2 w4 ⟨hB4, hV4, hV24⟩
  intros
  have HB4 := hid hB4
  have HV4 := hid hV4
  have HV24 := hid hV24
  obtain ⟨nR, hnR⟩ : ∃ nR, nR = 2 * L := ⟨_, rfl⟩
  have HNR := hid hnR
  have hn128 : nR ≤ 800 := by omega
  rw [← hnR] at HB4 HV4 ⊢
  clear hB4 hV4 hV24 HB hnR
  go_upto_region 28 with fail
  refine fr_b6 w.heap.size z r nx Os G a cap2 col0 bx off n L wp col4 aI cI aR nR cR T V aL 2 cL T2 V2 w4 HD.out HA0.out HA1.out ho HL.out hL64 HB4.out HNR.out HV4.out (fun c a d v w h => by cases d <;> exact h) ?_
  rintro w5 hb5
  intros
  have HB5 := hid (HB4.out.later hb5)
  have HLR := hid (rows_len HB5.out HV4.out)
  have HLL := hid (lists_len HB5.out (by rw [List.length_map, ← HL.out]; exact hL64) HV24.out)
  clear hb5 HB4
  have HOWN := hid HB5.out.idr.read
  obtain ⟨gL, rfl, hc0⟩ := HB5.out.lists.cell (i := 0) (by omega)
  obtain ⟨gL2, hgL2, hc1⟩ := HB5.out.lists.cell (i := 1) (by omega)
  cases hgL2
  obtain ⟨⟨x0, l0, e0⟩, hT0⟩ : ∃ t : Sl, T2 0 = t := ⟨_, rfl⟩
  obtain ⟨⟨x1, l1, e1⟩, hT1⟩ : ∃ t : Sl, T2 1 = t := ⟨_, rfl⟩
  have y0 := hc0 _ _ _ hT0
  have y1 := hc1 _ _ _ hT1
  have hr0 := (HB5.out.lists.inn 0 (by omega)).read
  have hr1 := (HB5.out.lists.inn 1 (by omega)).read
  rw [hT0, HV24.out 0 (by omega)] at hr0
  rw [hT1, HV24.out 1 (by omega)] at hr1
  simp only at hr0 hr1
  have HR0 := hid hr0
  have HR1 := hid hr1
  have HY1 := hid y1
  have hl0 : l0 < 9223372036854775807 := by have := hr0.len; rw [ints_length, List.length_map] at this; have := HL.out; omega
  have hl1 : l1 < 9223372036854775807 := by have := hr1.len; rw [ints_length, List.length_map] at this; have := HL.out; omega
  have hcL := HB5.out.lists.ou.read.cap_
  clear hc0 hc1 hT0 hT1 hr0 hr1 y1
  go_upto_region 36 with (first
    | (go_at_call 19; have hq_ := mk1; clear hq_; refine (sameInts_any _ _ _ _ _ _ _ _ _ (HR1.out.later HB6.out) (HOWN.out.later HB6.out) hl1).mono ?_; rintro e w7 ⟨rfl, m7, hw7⟩; rw [decide_eq_true rfl]; have HB7 : Hid (Below w5.heap.size w5 w7) := hid (by rw [hw7]; exact below_drewN HB6.out m7); clear hw7)
    | (go_at_call 19; refine (sameInts_any _ _ _ _ _ _ _ _ _ HR0.out HOWN.out hl0).mono ?_; rintro e w6 ⟨rfl, m6, hw6⟩; rw [decide_eq_true rfl]; have HB6 : Hid (Below w5.heap.size w5 w6) := hid (by rw [hw6]; exact below_drewN (Below.refl _ _) m6); have z1 := cell_later HB6.out HY1.out; clear hw6; obtain ⟨mk1, _⟩ : ∃ m : Nat, m = 0 := ⟨0, rfl⟩))
  have HBX := hid (HB5.out.later HB7.out)
  clear HB5 HB6 HB7 HR0 HR1 HY1 y0 z1 HOWN
  refine fr_b8 wp col4 aI L cI (Os.map Ob.id) aR nR cR T V _ 2 cL T2 V2 w7 HBX.out hn128 (by omega) HLR.out ?_
  rintro Y w8 ⟨hB8, hM8⟩
  intros
  have HB8 := hid hB8
  have HM8 := hid hM8
  clear hB8 hM8 HBX
  go_upto_region 43 with fail
  refine fr_b12 wp col4 aI L cI (Os.map Ob.id) aR nR cR T Y _ 2 cL T2 V2 w8 HB8.out hn128 (by omega) HLL.out ?_
  rintro Y2 w9 ⟨hB9, hM9⟩
  intros
  have HB9 := hid (hB9.bv (fun _ => (none, 0, 0)) (fun _ => (none, 0, 0)))
  have HM9 := hid hM9
  clear hB9 hM9 HB8
  go_upto_region 50 with fail
  refine fr_b16 wp aI L cI (Os.map Ob.id) aR nR cR T Y _ 2 cL T2 Y2 0 none 0 _ col4 _ w9 HB9.out hn128 (by omega) (by omega) HLR.out ?_
  rintro col5 aG cG U w10 hB10
  intros
  have HB10 := hid hB10
  clear hB10 HB9
  go_upto_region 54 with fail
  refine fr_b18 wp aI L cI (Os.map Ob.id) aR nR cR T Y _ 2 cL T2 Y2 nR aG cG U col5 _ w10 HB10.out hn128 (by omega) (by omega) HLL.out ?_
  rintro col6 aM cM U2 w11 hB11
  intros
  have HB11 := hid hB11
  clear hB11 HB10
  go_upto_region 58 with fail
  refine fr_b20 wp col6 aI L cI (Os.map Ob.id) aR nR cR T Y _ 2 cL T2 Y2 nR 2 aG cG U aM cM U2 w11 HB11.out rfl hn128 HLR.out HM8.out ?_
  rintro _ rfl
  intros
  go_upto_region 66 with fail
  refine fr_b24 wp col6 aI L cI (Os.map Ob.id) aR nR cR T Y _ 2 cL T2 Y2 nR 2 aG cG U aM cM U2 w11 HB11.out rfl (by omega) HLL.out HM9.out ?_
  rintro _ rfl
  intros
  have HD11 := hid (HD.out.later HB11.out.bel)
  have HP11 := hid (HPR.out.later HB11.out.bel)
  have a0 := cell_later HB11.out.bel HA0.out
  have HA0' := hid a0
  have HA1' := hid (cell_later HB11.out.bel HA1.out)
  have HOWN := hid HB11.out.idr.read
  have hlL : L < 9223372036854775807 := by omega
  have HBB := hid (below_call HBW.out HB11.out.bel)
  go_wp2_with (first
    | (go_at_call 20; refine (bytes_any w.heap.size z r _ _ (HP11.out.later HB13.out)).mono ?_; rintro e w14 ⟨rfl, B14⟩; have HB14 := hid (below_call HB13.out B14); clear B14)
    | (go_at_call 19; refine (sameInts_any _ _ _ _ _ _ _ _ _ HO12.out.read (HOWN.out.later HB12.out) hlL).mono ?_; rintro e w13 ⟨rfl, m13, hw13⟩; rw [decide_eq_true rfl]; have HB13 : Hid (Below w11.heap.size w11 w13) := hid (by rw [hw13]; exact below_drewN HB12.out m13); have d0 := cell_later HB13.out HA0'.out; have d1 := cell_later HB13.out HA1'.out; clear hw13)
    | (go_at_call 14; refine (st_ids z nx Os _ HD11.out.s).mono ?_; rintro e w12 ⟨b12, c12, rfl, O12, B12⟩; rw [← HL.out]; rw [← HL.out] at O12; have HO12 := hid O12; have HB12 := hid B12; clear O12 B12))
  go_ret
  exact ⟨rfl, below_call HBB.out HB14.out⟩
end Go.Proofs.Ytejkbeeffllpfaa
