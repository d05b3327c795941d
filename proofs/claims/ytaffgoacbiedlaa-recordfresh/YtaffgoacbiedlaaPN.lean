import Derived.Test.YtaffgoacbiedlaaFZ
import Derived.Test.YtaffgoacbiedlaaYH
import Derived.Test.YtaffgoacbiedlaaPU
namespace Go.Proofs.Ytaffgoacbiedlaa
open Go.RowKit
set_option linter.unusedVariables false
set_option linter.unusedSimpArgs false
theorem OI.empty9 (w : World) : OI (w.alloc (Obj.cells #[] 3)) w.heap.size (some ⟨w.heap.size, 0, none⟩) 0 0 [] := G.Ow.empty w 3 1
theorem Row.four (w : World) : Row (w.alloc (Obj.cells #[.int .u8 1, .int .u8 2, .int .u8 3, .int .u8 4] 5)) (some ⟨w.heap.size, 0, none⟩) 4 4 [1, 2, 3, 4] :=
  Row.at rfl (Nat.le_refl _) (by simp) (fun i hi => by
    rcases (show i = 0 ∨ i = 1 ∨ i = 2 ∨ i = 3 by simp at hi; omega) with rfl | rfl | rfl | rfl <;> simp [go_sem])
theorem RI.three (w : World) : RI (w.alloc (Obj.cells #[.int .i64 901, .int .i64 902, .int .i64 903] 3)) (some ⟨w.heap.size, 0, none⟩) 3 3 [901, 902, 903] :=
  ⟨rfl, Nat.le_refl _, fun e => (by cases e), fun x hx j u hu => by
    cases hx
    rw [addr_add0]
    have hj : j < 3 := by have := (List.getElem?_eq_some_iff.1 hu).1; simpa [i64s] using this
    rcases (show j = 0 ∨ j = 1 ∨ j = 2 by omega) with rfl | rfl | rfl <;> (simp [i64s] at hu; subst hu; simp [go_sem])⟩
theorem foR_w (c : Cl) (h1 : c.hi < 18446744073709551616) (h2 : c.lo < 18446744073709551616) : (foR c).hi < 18446744073709551616 ∧ (foR c).lo < 18446744073709551616 := by
  unfold foR
  cases c.given <;> (simp only []; repeat' split) <;> simp_all [clz]
theorem ri_nil {w : World} {a : Option Addr} {n c : Nat} (h : RI w a n c []) (U : World) : RI U a n c [] := ⟨h.len, h.cap_, h.none_, fun _ _ _ _ hu => by cases hu⟩
theorem row_nil9 {w : World} {a : Option Addr} {n c : Nat} (h : Row w a n c []) (U : World) : Row U a n c [] := ⟨h.len, h.cap_, h.none_, fun _ _ _ _ hu => (by cases hu), fun _ h => (by cases h)⟩
theorem slice_hI (a : Option Addr) (n c i : Nat) (h : i ≤ c) (w : World) : (Instr.sliceAt 39 (.slice a n c) none (some (.int .i64 (i : Int))) none).run Try.prog w = .ok (.slice a i c) w := by
  have u : Try.prog.underlying 39 = some (.slice (Try.prog.elem 39)) := by kernel_rfl
  have e : Try.prog.elem 39 = 3 := by kernel_rfl
  have s : (sizeOf 3).run Try.prog w = .ok 1 w := by
    obtain ⟨i, hi, hz0, hz1, hz2⟩ := info_parts (show (Try.prog.info? 3).map (fun i => (i.zero, i.size, i.bytes)) = some (some (.int .i64 0), 1, 8) by kernel_rfl)
    simp [sizeOf, typeInfo, hi, hz1]
  rw [run_sliceAt_slice _ _ _ _ _ _ u, run_slice_h _ _ _ _ _ u _ _ (by omega) (by omega), e, s]
  simp [sliced]
  cases a <;> simp [Addr.add]
set_option maxRecDepth 1000000 in
set_option maxHeartbeats 8000000 in
theorem fresh_walk (op by_ size obj : Int) (hi lo : Nat) (given : Bool) (rights off n : Int) (ea : Option Addr) (en ec : Nat) (index : Int) (fa : Option Addr) (fn fc : Nat) (da : Option Addr) (dn dc : Nat) (D : List Nat) (F : List Int) (w : World) (hD : Row w da dn dc D) (hF : RI w fa fn fc F) (h1 : hi < 18446744073709551616) (h2 : lo < 18446744073709551616) :
    Calls Try.prog 5 #[.agg #[.int .i64 op, .int .i64 by_, .int .i64 size, .int .i64 obj, .int .u64 (hi : Int), .int .u64 (lo : Int), .bool given, .int .i64 rights, .int .i64 off, .int .i64 n, .slice ea en ec, .int .i64 index, .slice fa fn fc], .slice da dn dc] w fun e w' => e = .returned (.bool true) ∧ Below w.heap.size w w' := by
  obtain ⟨o, ho⟩ : ∃ o, o = foR ⟨5, 0, 0, obj, hi, lo, true, 0, 0, 0, D, 0, []⟩ := ⟨_, rfl⟩
  obtain ⟨p, hp⟩ : ∃ p, p = foR ⟨8, 0, 0, 0, 0, 0, false, 0, 0, 0, [], 0, F⟩ := ⟨_, rfl⟩
  have HFO : Hid (fm o = true ∧ o.op = 6 ∧ o.gifts = [] ∧ (o.hi < 18446744073709551616 ∧ o.lo < 18446744073709551616)) := by
    refine ⟨by rw [ho]; exact fm_foR _, by rw [ho]; simp [foR], by rw [ho]; simp [foR], ?_⟩
    rw [ho]
    exact foR_w _ h1 h2
  have HFP : Hid (fm p = true ∧ p.op = 9 ∧ p.data = [] ∧ (p.hi < 18446744073709551616 ∧ p.lo < 18446744073709551616)) := by
    refine ⟨by rw [hp]; exact fm_foR _, by rw [hp]; simp [foR], by rw [hp]; simp [foR], ?_⟩
    rw [hp]
    exact foR_w _ (by simp) (by simp)
  have HOP := hid (And.intro ho hp)
  have HDF := hid (And.intro hD hF)
  have HX1 : Hid (Bx (w.alloc (Obj.cells #[.int .i64 op, .int .i64 by_, .int .i64 size, .int .i64 obj, .int .u64 (hi : Int), .int .u64 (lo : Int), .bool given, .int .i64 rights, .int .i64 off, .int .i64 n, .slice ea en ec, .int .i64 index, .slice fa fn fc] 41)) w.heap.size [.int .i64 op, .int .i64 by_, .int .i64 size, .int .i64 obj, .int .u64 (hi : Int), .int .u64 (lo : Int), .bool given, .int .i64 rights, .int .i64 off, .int .i64 n, .slice ea en ec, .int .i64 index, .slice fa fn fc]) := Bx.new w [.int .i64 op, .int .i64 by_, .int .i64 size, .int .i64 obj, .int .u64 (hi : Int), .int .u64 (lo : Int), .bool given, .int .i64 rights, .int .i64 off, .int .i64 n, .slice ea en ec, .int .i64 index, .slice fa fn fc] 41
  have HB1 : Hid (Below w.heap.size w (w.alloc (Obj.cells #[.int .i64 op, .int .i64 by_, .int .i64 size, .int .i64 obj, .int .u64 (hi : Int), .int .u64 (lo : Int), .bool given, .int .i64 rights, .int .i64 off, .int .i64 n, .slice ea en ec, .int .i64 index, .slice fa fn fc] 41))) := below1 _ _
  have HC1 : Hid (Cc (w.alloc (Obj.cells #[.int .i64 op, .int .i64 by_, .int .i64 size, .int .i64 obj, .int .u64 (hi : Int), .int .u64 (lo : Int), .bool given, .int .i64 rights, .int .i64 off, .int .i64 n, .slice ea en ec, .int .i64 index, .slice fa fn fc] 41)) [.int .i64 5, .int .i64 0, .int .i64 0, .int .i64 obj, .int .u64 (hi : Int), .int .u64 (lo : Int), .bool true, .int .i64 0, .int .i64 0, .int .i64 0, .slice da dn dc, .int .i64 0, .slice none 0 0] ⟨5, 0, 0, obj, hi, lo, true, 0, 0, 0, D, 0, []⟩) := ⟨⟨da, dn, dc⟩, Sl.nil, rfl, hD.later (below1 _ _), RI.nil _, h1, h2⟩
  clear ho hp hD hF
  have mk0 := hid True.intro
  go_enter Try.func5, Try.ntmps5
  go_upto_region 3 with (first
    | (clear mk0; go_at_call 14; refine (formed_any [.int .i64 5, .int .i64 0, .int .i64 0, .int .i64 obj, .int .u64 (hi : Int), .int .u64 (lo : Int), .bool true, .int .i64 0, .int .i64 0, .int .i64 0, .slice da dn dc, .int .i64 0, .slice none 0 0] ⟨5, 0, 0, obj, hi, lo, true, 0, 0, 0, D, 0, []⟩ _ HC1.out).mono ?_; rintro e w2 ⟨M1, rfl, hc2, hb2⟩; rw [← HOP.out.1] at hc2; have hm1 := hc2.len; obtain ⟨w3, hst3, hx3, hb3⟩ := store_new w2 (Z := [.int .i64 0, .int .i64 0, .int .i64 0, .int .i64 0, .int .u64 0, .int .u64 0, .bool false, .int .i64 0, .int .i64 0, .int .i64 0, .slice none 0 0, .int .i64 0, .slice none 0 0]) (t := 41) hm1 hc2.one; have HX3 := hid hx3; have HC3 := hid (hc2.later hb3); have HB3 := hid (below_call (below_call HB1.out hb2) hb3); have HSZ3 := hid (And.intro (Nat.le_trans HB1.out.size hb2.size) (hx3.lt (by omega))); have z12 := ((HX1.out.later hb2).later hb3).cell 12 (v := .slice fa fn fc) rfl; have HC4 : Hid (Cc w3 [.int .i64 8, .int .i64 0, .int .i64 0, .int .i64 0, .int .u64 0, .int .u64 0, .bool false, .int .i64 0, .int .i64 0, .int .i64 0, .slice none 0 0, .int .i64 0, .slice fa fn fc] ⟨8, 0, 0, 0, 0, 0, false, 0, 0, 0, [], 0, F⟩) := ⟨Sl.nil, ⟨fa, fn, fc⟩, rfl, row_nil _, HDF.out.2.later HB3.out, (by simp), (by simp)⟩; clear hc2 hb2 hx3 hb3; have mk1 := hid True.intro)
    | (clear mk1; go_at_call 14; refine (formed_any [.int .i64 8, .int .i64 0, .int .i64 0, .int .i64 0, .int .u64 0, .int .u64 0, .bool false, .int .i64 0, .int .i64 0, .int .i64 0, .slice none 0 0, .int .i64 0, .slice fa fn fc] ⟨8, 0, 0, 0, 0, 0, false, 0, 0, 0, [], 0, F⟩ _ HC4.out).mono ?_; rintro e w4 ⟨M2, rfl, hc4, hb4⟩; rw [← HOP.out.2] at hc4; have hm2 := hc4.len; obtain ⟨w5, hst5, hx5, hb5⟩ := store_new w4 (Z := [.int .i64 0, .int .i64 0, .int .i64 0, .int .i64 0, .int .u64 0, .int .u64 0, .bool false, .int .i64 0, .int .i64 0, .int .i64 0, .slice none 0 0, .int .i64 0, .slice none 0 0]) (t := 41) hm2 hc4.one; have HX5 := hid hx5; have HC5 := hid (hc4.later hb5); have HB35 := hid (below_call hb4 hb5); have HSZ5 := hid (And.intro hb4.size (hx5.lt (by omega))); clear hc4 hb4 hx5 hb5; have mk2 := hid True.intro))
  clear z12
  obtain ⟨⟨oa, nn, oc⟩, go, eo, hio⟩ := (HC3.out.later HB35.out).ex
  obtain ⟨dp, ⟨pa, mm, pc⟩, ep, hip⟩ := HC5.out.ex
  have hrO : Row w5 oa nn oc o.data := hio.data
  have hrP : RI w5 pa mm pc p.gifts := hip.gifts
  have hnn : o.data.length = nn := hrO.len
  have hmm : p.gifts.length = mm := hrP.len
  have hn1 : nn ≤ 1025 := by rw [← hnn]; exact fm_data HFO.out.1
  have hml1 : mm ≤ 255 := by rw [← hmm]; exact fm_gifts HFP.out.1
  have HNN := hid hnn
  have HMM := hid hmm
  have hx35 := HX3.out.later HB35.out
  have HX35 := hid hx35
  have y10 := hx35.cell 10 (v := .slice oa nn oc) (by rw [eo]; rfl)
  have HEO := hid (And.intro eo ep)
  have y10a := cell_later (below1 w5 (Obj.cells #[] 5)) y10
  have HGO : Hid (∀ U, RI U go.a go.n go.c o.gifts) := fun U => by have := hio.gifts; rw [HFO.out.2.2.1] at this ⊢; exact ri_nil this U
  have HDP : Hid (∀ U, Row U dp.a dp.n dp.c p.data) := fun U => by have := hip.data; rw [HFP.out.2.2.1] at this ⊢; exact row_nil9 this U
  obtain ⟨a6, c6, w6, hrun6, hown6, hgr6⟩ := append_any (Own.empty w5) (hrO.alloc (Obj.cells #[] 5)) (by simp) (by omega)
  rw [Nat.zero_add, List.nil_append] at hown6
  rw [Nat.zero_add] at hrun6
  have T6 : Below w5.heap.size w5 w6 := But.below (below1 w5 _) hgr6.but (fun j hj => (Own.empty w5).blk j hj)
  obtain ⟨ra, rc, w7, hrun7, hown7, hgr7⟩ := append_any (hown6.alloc (Obj.cells #[.int .u8 1, .int .u8 2, .int .u8 3, .int .u8 4] 5)) (Row.four w6) (by have := T6.size; simp; omega) (by omega)
  have T7 : Below w5.heap.size w5 w7 := But.below (below_call T6 (below1 w6 _)) hgr7.but (fun j hj => hown6.blk j hj)
  have HRUN6 := hid hrun6
  have HRUN7 := hid hrun7
  have HRO := hid hown7
  have HT7 := hid T7
  have HRP := hid (hrP.later T7)
  clear eo ep hio hip hrO hrP hnn hmm hx35 hrun6 hrun7 hown6 hown7 hgr6 hgr7 T6 T7
  have mk3 := hid True.intro
  go_upto_region 4 with (first
    | (clear mk3; at_builtin; refine wpList_append_known rfl _ _ 28 rfl _ _ rfl rfl _ w6 HRUN6.out ?_; have mk4 := hid True.intro)
    | (clear mk4; at_builtin; refine wpList_append_known rfl _ _ 28 rfl _ _ rfl rfl _ w7 HRUN7.out ?_; have mk5 := hid True.intro))
  clear y10 y10a
  have y12 := (HX5.out.later HT7.out).cell 12 (v := .slice pa mm pc) (by rw [HEO.out.2]; rfl)
  have y12a := cell_later (below1 w7 (Obj.cells #[] 3)) y12
  obtain ⟨a8, c8, w8, hrun8, hown8, hgr8⟩ := append_ints (OI.empty9 w7) (HRP.out.later (below1 w7 (Obj.cells #[] 3))) (by simp) (by omega)
  rw [Nat.zero_add, List.nil_append] at hown8
  rw [Nat.zero_add] at hrun8
  have T8 : Below w7.heap.size w7 w8 := But.below (below1 w7 _) hgr8.but (fun j hj => (OI.empty9 w7).blk j hj)
  obtain ⟨ga, gc, w9, hrun9, hown9, hgr9⟩ := append_ints (hown8.later (below1 w8 (Obj.cells #[.int .i64 901, .int .i64 902, .int .i64 903] 3))) (RI.three w8) (by have := T8.size; simp; omega) (by omega)
  have T9 : Below w7.heap.size w7 w9 := But.below (below_call T8 (below1 w8 _)) hgr9.but (fun j hj => hown8.blk j hj)
  have HRUN8 := hid hrun8
  have HRUN9 := hid hrun9
  have HGI := hid hown9
  have HT9 := hid T9
  have HT59 := hid (below_call HT7.out T9)
  clear hrun8 hrun9 hown8 hown9 hgr8 hgr9 T8 T9
  go_upto_region 5 with (first
    | (clear mk5; at_builtin; refine wpList_append_known rfl _ _ 39 rfl _ _ rfl rfl _ w8 HRUN8.out ?_; have mk6 := hid True.intro)
    | (clear mk6; at_builtin; refine wpList_append_known rfl _ _ 39 rfl _ _ rfl rfl _ w9 HRUN9.out ?_; have mk7 := hid True.intro))
  clear y12 y12a
  have HX39 := hid (HX35.out.later HT59.out)
  have HX59 := hid (HX5.out.later HT59.out)
  have q10 := HX39.out.cell 10 (v := .slice oa nn oc) (by rw [HEO.out.1]; rfl)
  have g10 : w9.frozen? ⟨w2.heap.size, 10, none⟩ = false := by have := (HX39.out.there 10 (by omega)).2; simpa using this
  have sl1 := slice_hi ra (nn + 4) rc nn (by have := HRO.out.read.cap_; omega)
  go_upto_region 6 with fail
  obtain ⟨wx, hwx⟩ : ∃ W, W = w9.setCell ⟨w2.heap.size, 10, none⟩ (.slice ra nn rc) := ⟨_, rfl⟩
  rw [← hwx]
  have hbx : But (· = w2.heap.size) w9 wx := by rw [hwx]; exact But.setCell (S := (· = w2.heap.size)) (But.refl _ _) (p := ⟨w2.heap.size, 10, none⟩) rfl _
  have hx1 : Bx wx w2.heap.size (M1.set 10 (.slice ra nn rc)) := by rw [hwx]; exact Bx.putq HX39.out (by omega) _
  have HORD : Hid (w.heap.size ≤ w2.heap.size ∧ w2.heap.size < w4.heap.size ∧ w4.heap.size < w5.heap.size ∧ w5.heap.size ≤ w9.heap.size ∧ w5.heap.size ≤ w7.heap.size) := by
    have s1 := HSZ3.out
    have s2 := HSZ5.out
    have s3 := HT59.out.size
    have s4 := HT7.out.size
    unfold Hid
    omega
  have hx2 : Bx wx w4.heap.size M2 := HX59.out.but hbx (fun e => by have := HORD.out; omega)
  have HX1x := hid hx1
  have HX2x := hid hx2
  have HBX := hid hbx
  have q12 := hx2.cell 12 (v := .slice pa mm pc) (by rw [HEO.out.2]; rfl)
  have g12 : wx.frozen? ⟨w4.heap.size, 12, none⟩ = false := by have := (hx2.there 12 (by omega)).2; simpa using this
  have sl2 := slice_hI ga (mm + 3) gc mm (by have := HGI.out.read.cap_; omega)
  clear hwx hbx hx1 hx2 q10 g10 sl1
  go_upto_region 7 with fail
  obtain ⟨wy, hwy⟩ : ∃ W, W = wx.setCell ⟨w4.heap.size, 12, none⟩ (.slice ga mm gc) := ⟨_, rfl⟩
  rw [← hwy]
  have hby : But (· = w4.heap.size) wx wy := by rw [hwy]; exact But.setCell (S := (· = w4.heap.size)) (But.refl _ _) (p := ⟨w4.heap.size, 12, none⟩) rfl _
  have hy2 : Bx wy w4.heap.size (M2.set 12 (.slice ga mm gc)) := by rw [hwy]; exact Bx.putq HX2x.out (by omega) _
  have hy1 : Bx wy w2.heap.size (M1.set 10 (.slice ra nn rc)) := HX1x.out.but hby (fun e => by have := HORD.out; omega)
  have hbs : But (fun k => k = w2.heap.size ∨ k = w4.heap.size) w9 wy := (HBX.out.mono (fun k hk => .inl hk)).trans (hby.mono (fun k hk => .inr hk))
  have hsz : w9.heap.size ≤ wy.heap.size := hbs.size
  have HBAy : Hid (Ba w wy wy.heap.size w2.heap.size w4.heap.size (M1.set 10 (.slice ra nn rc)) (M2.set 12 (.slice ga mm gc)) o p ra rc ga gc) := by
    have hO := HORD.out
    refine ⟨But.below (below_call (below_call HB3.out HB35.out) HT59.out) hbs (fun k hk => by omega), hy1, hy2, ⟨go, by rw [HEO.out.1, HNN.out]; rfl, HGO.out⟩, ⟨dp, by rw [HEO.out.2, HMM.out]; rfl, HDP.out⟩, ?_, ?_, HFO.out.1, HFP.out.1, HFO.out.2.1, HFP.out.2.1, HFO.out.2.2.2, HFP.out.2.2.2, Nat.le_refl _, ⟨hO.1, hO.2.1, by omega⟩, fun k hk => ?_, fun k hk => ?_⟩
    · rw [HNN.out]
      exact ((HRO.out.later HT9.out).but9 hbs (fun k hk e => by have := HRO.out.blk k hk; omega)).mono (by omega)
    · rw [HMM.out]
      exact (HGI.out.but hbs (fun k hk e => by have := HGI.out.blk k hk; omega)).mono (by omega)
    · have a1 := HRO.out.blk k hk
      have a2 := HRO.out.lt9 k hk
      have a3 := HT9.out.size
      omega
    · have a1 := HGI.out.blk k hk
      have a2 := HGI.out.lt k hk
      omega
  have r10 := hy1.cell 10 (v := .slice ra nn rc) (by rw [List.getElem?_set_self (by omega)])
  have r12 := hy2.cell 12 (v := .slice ga mm gc) (by rw [List.getElem?_set_self (by omega)])
  clear hwy hby hy1 hy2 hbs hsz q12 g12 sl2
  go_upto_region 8 with fail
  go_cut [10] from 37 (fun s W' => s = .int .i64 (mm : Int) ∧ W' = wy)
  case first =>
    go_wp2
    go_meet
    exact ⟨rfl, rfl⟩
  case rest =>
    obtain ⟨rfl, rfl⟩ := hcut
    first | go_upon | go_back | go_step
    refine fr_9 HBAy.out HNN.out HMM.out ?_
    intro w' hW
    intros
    first | (go_ret; exact ⟨rfl, hW⟩) | exact ⟨rfl, hW⟩
theorem fresh_law (L : List Value) (c : Cl) (da : Option Addr) (dn dc : Nat) (D : List Nat) (w : World) (h : Cc w L c) (hD : Row w da dn dc D) :
    Calls Try.prog 5 #[.agg L.toArray, .slice da dn dc] w fun e w' => e = .returned (.bool true) ∧ Below w.heap.size w w' := by
  obtain ⟨⟨ea, en, ec⟩, ⟨fa, fn, fc⟩, rfl, hi⟩ := h.ex
  exact fresh_walk c.op c.by_ c.size c.obj c.hi c.lo c.given c.rights c.off c.n ea en ec c.index fa fn fc da dn dc D c.gifts w hD hi.gifts hi.hi hi.lo
end Go.Proofs.Ytaffgoacbiedlaa
namespace Go.Proofs.Ytaffgoacbiedlaa
open Go.ChangeShapes Go.WideShapes Go.ChangeAt Go.RowKit Go.Joins

set_option maxRecDepth 100000 in
theorem fresh_lifted (os : _root_.Go.Os) (started : os.Started) (H : Type) (enc : TypeId × Value → H) :
    ReturnsInHanded {} Try.checked os 5 .any (Rows.recordFreshSpec.pre6 enc Try.prog Try.f5 Rows.recordFreshRow.domain false) (Rows.recordFreshSpec.post enc Try.prog Try.f5 false true false false) := by
  refine returnsInHanded_of_change_sized (C := Try.checked) ownK started (by kernel_rfl) Try.func5
    (ChangeSpec.witness6 (enc := enc) (C := Try.checked) false ⟨#[], #[.agg #[.int .i64 0, .int .i64 0, .int .i64 0, .int .i64 0, .int .u64 0, .int .u64 0, .bool false, .int .i64 0, .int .i64 0, .int .i64 0, .slice none 0 0, .int .i64 0, .slice none 0 0], .slice none 0 0], []⟩ 8 (by kernel_rfl) (by kernel_rfl) (by kernel_rfl) (by kernel_rfl)) ?_
  intro W base args ds gs before hval0 hW hcnd hsz0 _
  have hsz : (DataW.weightsEach Try.prog (Try.f5.params.toList ++ Rows.recordFreshSpec.plain.varTypes Try.prog) (ds ++ gs)).all (· ≤ reachBytes) = true := hsz0
  clear hsz0
  have hval : ∀ (j : Nat) t v, Try.f5.params[j]? = some t → args[j]? = some v → Value.okWide Try.prog W .any base t v := hval0
  have hW' := hW
  obtain ⟨p, q, hA0, hV, rfl, hfz, hnd⟩ := hW
  have hA : DataW.TrodAll enc Try.prog W 0 (fun _ => true) true Try.f5.params.toList args.toList ds p := hA0
  rw [Try.params5] at hA hval hsz
  obtain ⟨v0, vs0, d0, ds0, p0, q0, hargs, rfl, rfl, h0, r0⟩ := trodAll_cons hA
  obtain ⟨v1, vs1, d1, ds1, p1, q1, rfl, rfl, rfl, h1, r1⟩ := trodAll_cons r0
  obtain ⟨rfl, rfl, rfl⟩ := trodAll_nil r1
  obtain rfl : args = #[v0, v1] := by cases args; simp_all
  obtain ⟨rfl, rfl⟩ := trodVars_none hV
  have k1 := h1
  have lt1 : ∀ x ∈ p1, x.block < W.heap.size := by obtain ⟨m, hm⟩ := k1; exact DataW.trod_lt m _ _ _ hm
  have k0 := h0
  have lt0 : ∀ x ∈ p0, x.block < W.heap.size := by obtain ⟨m, hm⟩ := k0; exact DataW.trod_lt m _ _ _ hm
  obtain ⟨L, c, dd, gd, z0, z1, z2, z3, z4, z5, z6, z7, z9, rfl, hC, rfl, hrd, hrg⟩ := open_call (hval 0 41 v0 rfl rfl) h0
  obtain ⟨a, n, cap, M, rfl, hM, _⟩ := open_row (hval 1 28 v1 rfl rfl) h1
  clear hA0 hval0 hsz
  refine (fresh_law L c a n cap M W hC hM).mono fun e W' ⟨he, bel⟩ => ?_
  subst he
  exact ⟨_, rfl, _, _, _, [], _, [], hW', trodAll_mk1 (shut_bool Try.underlying4 _), (trodAll_cons_mk (Below.trod laidOut (by kernel_rfl) (of_decide_eq_true (by kernel_rfl)) k0 bel lt0) (trodAll_cons_mk (Below.trod laidOut (by kernel_rfl) (of_decide_eq_true (by kernel_rfl)) k1 bel lt1) trodAll_mk0)), rfl, bel.frame _, fun h => by cases h⟩

theorem recordFresh_holds : Rows.RecordFreshSaid :=
  OpenClaim.holds_of_wide 5 Try.f5 rfl rfl rfl rfl rfl rfl rfl ⟨rfl, rfl, rfl, rfl, rfl⟩ rfl rfl rfl rfl rfl (by kernel_rfl) Try.func5 (by kernel_rfl)
    (of_decide_eq_true (by kernel_rfl)) (by unfold Func.isWrapper; first | (rw [if_pos (by decide +kernel)]; kernel_rfl) | (rw [if_neg (by decide +kernel)]; exact ⟨rfl, rfl⟩))
    (fun os started H enc _ => fresh_lifted os started H enc)
#print axioms recordFresh_holds
end Go.Proofs.Ytaffgoacbiedlaa
